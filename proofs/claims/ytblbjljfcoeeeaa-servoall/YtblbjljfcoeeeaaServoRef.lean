/- The walks over the reference of layer 14: Read, Master. -/
import Derived.Test.YtblbjljfcoeeeaaServoMath
import Derived.Test.YtblbjljfcoeeeaaSpanRef3
import Derived.Test.YtblbjljfcoeeeaaBigCore
import Derived.Test.YtblbjljfcoeeeaaByHand
import Derived.Deep.DeepCutAuto
namespace Go.Proofs.Ytblbjljfcoeeeaa
set_option maxRecDepth 100000
open Go.RowKit
set_option linter.unusedVariables false
set_option linter.unusedSimpArgs false

set_option maxHeartbeats 4000000 in
theorem rread14_any (s : Sv) (t : Int) (w : World) :
    Calls Try.prog 15 #[.agg (svA s), .int .i64 t] w fun e w' => e = .returned (.agg #[.int .i64 (readS s t).lo, .int .i64 (readS s t).hi, .bool (readS s t).k]) ∧ Below w.heap.size w w' := by
  have HB := Lib.hid (Below.refl w.heap.size w)
  cases h1 : subB t s.tm
  · have HRB : readB s t = false := by unfold readB; rw [h1]; rfl
    have HB1 := Lib.hid h1
    have HX : Hid (readS s t = unS) := by unfold readS; rw [Hid, HRB]; rfl
    clear HRB h1
    have HIN := Lib.hid (agoN_in s t)
    obtain ⟨d, Hd⟩ : ∃ x, Hid (agoN s t = x) := ⟨_, Lib.hid rfl⟩
    go_enter Try.func15, Try.ntmps15
    go_upto_region 1 with (first | (refine big_alloc rfl 29 rfl (#[.int .i64 0, .int .i64 0, .bool false]) (by kernel_rfl) ?_; intro gK4 wK4 hlK4 nK4 hbK4; have K4 := Lib.hid nK4; have LK4 := Lib.hid (Nat.le_trans (HB.out).size hlK4); have OK2K4 := Lib.hid ((K2.out).off hlK4); replace K2 := Lib.hid ((K2.out).keptB hbK4); replace HB := Lib.hid (bstep HB.out hbK4); clear hlK4 nK4 hbK4; try simp only [Act.put, List.setIfInBounds_toArray, List.set_cons_zero, List.set_cons_succ]) | (refine big_box rfl 31 _ rfl (svA s) rfl (by kernel_rfl) ?_; intro gK2 wK2 hlK2 nK2 hbK2; have K2 := Lib.hid nK2; have LK2 := Lib.hid (Nat.le_trans (HB.out).size hlK2); replace HB := Lib.hid (bstep HB.out hbK2); clear hlK2 nK2 hbK2; try simp only [Act.put, List.setIfInBounds_toArray, List.set_cons_zero, List.set_cons_succ]))
    have x4 := (K2.out).reads (i := 4) (x := .int .i64 s.tm) rfl
    go_wp2_with fail
    clear x4
    refine (rsub_any t s.tm _).mono ?_
    rintro e c1 ⟨rfl, hc1⟩
    replace K2 := Lib.hid ((K2.out).keptB hc1)
    replace K4 := Lib.hid ((K4.out).keptB hc1)
    replace HB := Lib.hid (bstep HB.out hc1)
    clear hc1
    rw [show told (subB t s.tm) (t - s.tm) = d from Hd.out, HB1.out]
    have x3 := (K2.out).reads (i := 3) (x := .bool s.o.k) rfl
    go_upto_region 3 with fail
    clear x3
    go_wp2_with (first | (refine big_fill rfl 29 _ _ rfl gK4 (#[.int .i64 0, .int .i64 0, .bool false]) rfl rfl K4.out (by kernel_rfl) (by kernel_rfl) (by kernel_rfl) ?_; intro vK41 nK4 htK4; replace K4 := Lib.hid nK4; replace K2 := Lib.hid ((K2.out).touch htK4 OK2K4.out); replace HB := Lib.hid (btouch HB.out htK4 LK4.out); clear nK4 htK4; try simp only [Act.put, List.setIfInBounds_toArray, List.set_cons_zero, List.set_cons_succ]) | (refine big_build rfl 29 _ rfl (#[.int .i64 0, .int .i64 0, .bool false]) (by kernel_rfl) ?_; try simp only [Act.put, List.setIfInBounds_toArray, List.set_cons_zero, List.set_cons_succ]))
    refine bodyPost_ret (v := .agg (#[.int .i64 0, .int .i64 0, .bool false])) (results_cell_row rfl _ _ gK4 _ _ (0, 0) _ rfl K4.out Try.underlying29 rfl (by kernel_rfl)) rfl ?_
    rw [HX.out]
    exact ⟨rfl, HB.out⟩
  · cases h2 : s.o.k
    · have HRB : readB s t = false := by unfold readB; rw [h1, h2]; rfl
      have HB1 := Lib.hid h1
      have HK := Lib.hid h2
      have HX : Hid (readS s t = unS) := by unfold readS; rw [Hid, HRB]; rfl
      clear HRB h1 h2
      have HIN := Lib.hid (agoN_in s t)
      obtain ⟨d, Hd⟩ : ∃ x, Hid (agoN s t = x) := ⟨_, Lib.hid rfl⟩
      go_enter Try.func15, Try.ntmps15
      go_upto_region 1 with (first | (refine big_alloc rfl 29 rfl (#[.int .i64 0, .int .i64 0, .bool false]) (by kernel_rfl) ?_; intro gK4 wK4 hlK4 nK4 hbK4; have K4 := Lib.hid nK4; have LK4 := Lib.hid (Nat.le_trans (HB.out).size hlK4); have OK2K4 := Lib.hid ((K2.out).off hlK4); replace K2 := Lib.hid ((K2.out).keptB hbK4); replace HB := Lib.hid (bstep HB.out hbK4); clear hlK4 nK4 hbK4; try simp only [Act.put, List.setIfInBounds_toArray, List.set_cons_zero, List.set_cons_succ]) | (refine big_box rfl 31 _ rfl (svA s) rfl (by kernel_rfl) ?_; intro gK2 wK2 hlK2 nK2 hbK2; have K2 := Lib.hid nK2; have LK2 := Lib.hid (Nat.le_trans (HB.out).size hlK2); replace HB := Lib.hid (bstep HB.out hbK2); clear hlK2 nK2 hbK2; try simp only [Act.put, List.setIfInBounds_toArray, List.set_cons_zero, List.set_cons_succ]))
      have x4 := (K2.out).reads (i := 4) (x := .int .i64 s.tm) rfl
      go_wp2_with fail
      clear x4
      refine (rsub_any t s.tm _).mono ?_
      rintro e c1 ⟨rfl, hc1⟩
      replace K2 := Lib.hid ((K2.out).keptB hc1)
      replace K4 := Lib.hid ((K4.out).keptB hc1)
      replace HB := Lib.hid (bstep HB.out hc1)
      clear hc1
      rw [show told (subB t s.tm) (t - s.tm) = d from Hd.out, HB1.out]
      have x3 := (K2.out).reads (i := 3) (x := .bool s.o.k) rfl
      rw [HK.out] at x3
      go_upto_region 3 with fail
      clear x3
      go_wp2_with (first | (refine big_fill rfl 29 _ _ rfl gK4 (#[.int .i64 0, .int .i64 0, .bool false]) rfl rfl K4.out (by kernel_rfl) (by kernel_rfl) (by kernel_rfl) ?_; intro vK41 nK4 htK4; replace K4 := Lib.hid nK4; replace K2 := Lib.hid ((K2.out).touch htK4 OK2K4.out); replace HB := Lib.hid (btouch HB.out htK4 LK4.out); clear nK4 htK4; try simp only [Act.put, List.setIfInBounds_toArray, List.set_cons_zero, List.set_cons_succ]) | (refine big_build rfl 29 _ rfl (#[.int .i64 0, .int .i64 0, .bool false]) (by kernel_rfl) ?_; try simp only [Act.put, List.setIfInBounds_toArray, List.set_cons_zero, List.set_cons_succ]))
      refine bodyPost_ret (v := .agg (#[.int .i64 0, .int .i64 0, .bool false])) (results_cell_row rfl _ _ gK4 _ _ (0, 0) _ rfl K4.out Try.underlying29 rfl (by kernel_rfl)) rfl ?_
      rw [HX.out]
      exact ⟨rfl, HB.out⟩
    · by_cases h3 : 0 ≤ agoN s t
      · have HRB : readB s t = true := by unfold readB; rw [h1, h2, decide_eq_true h3]; rfl
        have HX0 : readS s t = driftS s.o (agoN s t) s.ppb := by unfold readS; rw [HRB]; rfl
        have HB1 := Lib.hid h1
        have HK := Lib.hid h2
        have H3 := Lib.hid h3
        clear HRB h1 h2 h3
        have HIN := Lib.hid (agoN_in s t)
        obtain ⟨d, Hd⟩ : ∃ x, Hid (agoN s t = x) := ⟨_, Lib.hid rfl⟩
        rw [Hd.out] at HX0 HIN
        obtain ⟨q, Hq⟩ : ∃ q, Hid (driftS s.o d s.ppb = q) := ⟨_, Lib.hid rfl⟩
        rw [Hq.out] at HX0
        have HX := Lib.hid HX0
        clear HX0
        go_enter Try.func15, Try.ntmps15
        go_upto_region 1 with (first | (refine big_alloc rfl 29 rfl (#[.int .i64 0, .int .i64 0, .bool false]) (by kernel_rfl) ?_; intro gK4 wK4 hlK4 nK4 hbK4; have K4 := Lib.hid nK4; have LK4 := Lib.hid (Nat.le_trans (HB.out).size hlK4); have OK2K4 := Lib.hid ((K2.out).off hlK4); replace K2 := Lib.hid ((K2.out).keptB hbK4); replace HB := Lib.hid (bstep HB.out hbK4); clear hlK4 nK4 hbK4; try simp only [Act.put, List.setIfInBounds_toArray, List.set_cons_zero, List.set_cons_succ]) | (refine big_box rfl 31 _ rfl (svA s) rfl (by kernel_rfl) ?_; intro gK2 wK2 hlK2 nK2 hbK2; have K2 := Lib.hid nK2; have LK2 := Lib.hid (Nat.le_trans (HB.out).size hlK2); replace HB := Lib.hid (bstep HB.out hbK2); clear hlK2 nK2 hbK2; try simp only [Act.put, List.setIfInBounds_toArray, List.set_cons_zero, List.set_cons_succ]))
        have x4 := (K2.out).reads (i := 4) (x := .int .i64 s.tm) rfl
        go_wp2_with fail
        clear x4
        refine (rsub_any t s.tm _).mono ?_
        rintro e c1 ⟨rfl, hc1⟩
        replace K2 := Lib.hid ((K2.out).keptB hc1)
        replace K4 := Lib.hid ((K4.out).keptB hc1)
        replace HB := Lib.hid (bstep HB.out hc1)
        clear hc1
        rw [show told (subB t s.tm) (t - s.tm) = d from Hd.out, HB1.out]
        have x3 := (K2.out).reads (i := 3) (x := .bool s.o.k) rfl
        rw [HK.out] at x3
        have dd : decide (d < 0) = false := decide_eq_false (by rw [← Hd.out]; have := H3.out; omega)
        go_upto_region 4 with fail
        clear x3
        have x0 := (K2.out).reads (i := 0) (x := .int .i64 s.ppb) rfl
        go_wp2_with ((refine big_load rfl 29 _ rfl gK2 1 rfl K2.out [.int .i64 s.o.lo, .int .i64 s.o.hi, .bool s.o.k] rfl Try.underlying29 rfl (by kernel_rfl) ?_; try simp only [Act.put, List.setIfInBounds_toArray, List.set_cons_zero, List.set_cons_succ]))
        clear x0
        refine (rdrift3_any s.o d s.ppb _ HIN.out).mono ?_
        rintro e c2 ⟨rfl, hc2⟩
        replace K2 := Lib.hid ((K2.out).keptB hc2)
        replace K4 := Lib.hid ((K4.out).keptB hc2)
        replace HB := Lib.hid (bstep HB.out hc2)
        clear hc2
        rw [Hq.out]
        go_wp2_with ((refine big_fill rfl 29 _ _ rfl gK4 (#[.int .i64 q.lo, .int .i64 q.hi, .bool q.k]) rfl rfl K4.out (by kernel_rfl) (by kernel_rfl) (by kernel_rfl) ?_; intro vK41 nK4 htK4; replace K4 := Lib.hid nK4; replace K2 := Lib.hid ((K2.out).touch htK4 OK2K4.out); replace HB := Lib.hid (btouch HB.out htK4 LK4.out); clear nK4 htK4; try simp only [Act.put, List.setIfInBounds_toArray, List.set_cons_zero, List.set_cons_succ]))
        refine bodyPost_ret (v := .agg (#[.int .i64 q.lo, .int .i64 q.hi, .bool q.k])) (results_cell_row rfl _ _ gK4 _ _ (0, 0) _ rfl K4.out Try.underlying29 rfl (by kernel_rfl)) rfl ?_
        rw [HX.out]
        exact ⟨rfl, HB.out⟩
      · have h4 : agoN s t < 0 := by omega
        have HRB : readB s t = false := by unfold readB; rw [h1, h2, decide_eq_false h3]; rfl
        have HB1 := Lib.hid h1
        have HK := Lib.hid h2
        have H4 := Lib.hid h4
        have HX : Hid (readS s t = unS) := by unfold readS; rw [Hid, HRB]; rfl
        clear HRB h1 h2 h3 h4
        have HIN := Lib.hid (agoN_in s t)
        obtain ⟨d, Hd⟩ : ∃ x, Hid (agoN s t = x) := ⟨_, Lib.hid rfl⟩
        go_enter Try.func15, Try.ntmps15
        go_upto_region 1 with (first | (refine big_alloc rfl 29 rfl (#[.int .i64 0, .int .i64 0, .bool false]) (by kernel_rfl) ?_; intro gK4 wK4 hlK4 nK4 hbK4; have K4 := Lib.hid nK4; have LK4 := Lib.hid (Nat.le_trans (HB.out).size hlK4); have OK2K4 := Lib.hid ((K2.out).off hlK4); replace K2 := Lib.hid ((K2.out).keptB hbK4); replace HB := Lib.hid (bstep HB.out hbK4); clear hlK4 nK4 hbK4; try simp only [Act.put, List.setIfInBounds_toArray, List.set_cons_zero, List.set_cons_succ]) | (refine big_box rfl 31 _ rfl (svA s) rfl (by kernel_rfl) ?_; intro gK2 wK2 hlK2 nK2 hbK2; have K2 := Lib.hid nK2; have LK2 := Lib.hid (Nat.le_trans (HB.out).size hlK2); replace HB := Lib.hid (bstep HB.out hbK2); clear hlK2 nK2 hbK2; try simp only [Act.put, List.setIfInBounds_toArray, List.set_cons_zero, List.set_cons_succ]))
        have x4 := (K2.out).reads (i := 4) (x := .int .i64 s.tm) rfl
        go_wp2_with fail
        clear x4
        refine (rsub_any t s.tm _).mono ?_
        rintro e c1 ⟨rfl, hc1⟩
        replace K2 := Lib.hid ((K2.out).keptB hc1)
        replace K4 := Lib.hid ((K4.out).keptB hc1)
        replace HB := Lib.hid (bstep HB.out hc1)
        clear hc1
        rw [show told (subB t s.tm) (t - s.tm) = d from Hd.out, HB1.out]
        have x3 := (K2.out).reads (i := 3) (x := .bool s.o.k) rfl
        rw [HK.out] at x3
        have dd : decide (d < 0) = true := decide_eq_true (by rw [← Hd.out]; exact H4.out)
        go_upto_region 3 with fail
        clear x3
        go_wp2_with (first | (refine big_fill rfl 29 _ _ rfl gK4 (#[.int .i64 0, .int .i64 0, .bool false]) rfl rfl K4.out (by kernel_rfl) (by kernel_rfl) (by kernel_rfl) ?_; intro vK41 nK4 htK4; replace K4 := Lib.hid nK4; replace K2 := Lib.hid ((K2.out).touch htK4 OK2K4.out); replace HB := Lib.hid (btouch HB.out htK4 LK4.out); clear nK4 htK4; try simp only [Act.put, List.setIfInBounds_toArray, List.set_cons_zero, List.set_cons_succ]) | (refine big_build rfl 29 _ rfl (#[.int .i64 0, .int .i64 0, .bool false]) (by kernel_rfl) ?_; try simp only [Act.put, List.setIfInBounds_toArray, List.set_cons_zero, List.set_cons_succ]))
        refine bodyPost_ret (v := .agg (#[.int .i64 0, .int .i64 0, .bool false])) (results_cell_row rfl _ _ gK4 _ _ (0, 0) _ rfl K4.out Try.underlying29 rfl (by kernel_rfl)) rfl ?_
        rw [HX.out]
        exact ⟨rfl, HB.out⟩
set_option maxHeartbeats 4000000 in
theorem rmaster14_any (s : Sv) (t : Int) (w : World) :
    Calls Try.prog 18 #[.agg (svA s), .int .i64 t] w fun e w' => e = .returned (.agg #[.int .i64 (masterS s t).lo, .int .i64 (masterS s t).hi, .bool (masterS s t).k]) ∧ Below w.heap.size w w' := by
  have HB := Lib.hid (Below.refl w.heap.size w)
  obtain ⟨a, Ha⟩ : ∃ z_, Hid (readS s t = z_) := ⟨_, Lib.hid rfl⟩
  obtain ⟨b, Hb⟩ : ∃ z_, Hid (ofS t t = z_) := ⟨_, Lib.hid rfl⟩
  obtain ⟨c, Hc⟩ : ∃ z_, Hid (addS a b = z_) := ⟨_, Lib.hid rfl⟩
  have HX : Hid (masterS s t = c) := by unfold masterS; rw [Hid, Ha.out, Hb.out, Hc.out]
  go_enter Try.func18, Try.ntmps18
  go_upto_region 1 with (first | (refine big_alloc rfl 29 rfl (#[.int .i64 0, .int .i64 0, .bool false]) (by kernel_rfl) ?_; intro gK4 wK4 hlK4 nK4 hbK4; have K4 := Lib.hid nK4; have LK4 := Lib.hid (Nat.le_trans (HB.out).size hlK4); have OK2K4 := Lib.hid ((K2.out).off hlK4); replace K2 := Lib.hid ((K2.out).keptB hbK4); replace HB := Lib.hid (bstep HB.out hbK4); clear hlK4 nK4 hbK4; try simp only [Act.put, List.setIfInBounds_toArray, List.set_cons_zero, List.set_cons_succ]) | (refine big_box rfl 31 _ rfl (svA s) rfl (by kernel_rfl) ?_; intro gK2 wK2 hlK2 nK2 hbK2; have K2 := Lib.hid nK2; have LK2 := Lib.hid (Nat.le_trans (HB.out).size hlK2); replace HB := Lib.hid (bstep HB.out hbK2); clear hlK2 nK2 hbK2; try simp only [Act.put, List.setIfInBounds_toArray, List.set_cons_zero, List.set_cons_succ]))
  go_wp2_with ((refine big_whole rfl 31 _ rfl gK2 rfl K2.out Try.underlying31 rfl (by kernel_rfl) ?_; try simp only [Act.put, List.setIfInBounds_toArray, List.set_cons_zero, List.set_cons_succ]))
  refine (rread14_any s t _).mono ?_
  rintro e c1 ⟨rfl, hc1⟩
  replace K2 := Lib.hid ((K2.out).keptB hc1)
  replace K4 := Lib.hid ((K4.out).keptB hc1)
  replace HB := Lib.hid (bstep HB.out hc1)
  clear hc1
  rw [Ha.out]
  go_wp2_with fail
  refine (rof3_any t t _).mono ?_
  rintro e c2 ⟨rfl, hc2⟩
  replace K2 := Lib.hid ((K2.out).keptB hc2)
  replace K4 := Lib.hid ((K4.out).keptB hc2)
  replace HB := Lib.hid (bstep HB.out hc2)
  clear hc2
  rw [Hb.out]
  go_wp2_with fail
  refine (radd3_any a b _).mono ?_
  rintro e c3 ⟨rfl, hc3⟩
  replace K2 := Lib.hid ((K2.out).keptB hc3)
  replace K4 := Lib.hid ((K4.out).keptB hc3)
  replace HB := Lib.hid (bstep HB.out hc3)
  clear hc3
  rw [Hc.out]
  go_wp2_with ((refine big_fill rfl 29 _ _ rfl gK4 (#[.int .i64 c.lo, .int .i64 c.hi, .bool c.k]) rfl rfl K4.out (by kernel_rfl) (by kernel_rfl) (by kernel_rfl) ?_; intro vK41 nK4 htK4; replace K4 := Lib.hid nK4; replace K2 := Lib.hid ((K2.out).touch htK4 OK2K4.out); replace HB := Lib.hid (btouch HB.out htK4 LK4.out); clear nK4 htK4; try simp only [Act.put, List.setIfInBounds_toArray, List.set_cons_zero, List.set_cons_succ]))
  refine bodyPost_ret (v := .agg (#[.int .i64 c.lo, .int .i64 c.hi, .bool c.k])) (results_cell_row rfl _ _ gK4 _ _ (0, 0) _ rfl K4.out Try.underlying29 rfl (by kernel_rfl)) rfl ?_
  rw [HX.out]
  exact ⟨rfl, HB.out⟩

end Go.Proofs.Ytblbjljfcoeeeaa
