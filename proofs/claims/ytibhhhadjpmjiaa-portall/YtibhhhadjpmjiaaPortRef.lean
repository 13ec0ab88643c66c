/- The walks over the small functions of the reference of layer 12. -/
import Derived.Test.YtibhhhadjpmjiaaPortMath
import Derived.Test.YtibhhhadjpmjiaaBigCore
import Derived.Test.YtibhhhadjpmjiaaByHand
import Derived.Test.YtibhhhadjpmjiaaRegionEnd
import Derived.Deep.DeepCutAuto
namespace Go.Proofs.Ytibhhhadjpmjiaa
set_option maxRecDepth 100000
open Go.RowKit
set_option linter.unusedVariables false
set_option linter.unusedSimpArgs false

theorem ret_boolP {a b : Bool} (h : a = b) : Ending.returned (.bool a) = .returned (.bool b) := by rw [h]
theorem ret_intP {a b : Int} (h : a = b) : Ending.returned (.int .i64 a) = .returned (.int .i64 b) := by rw [h]
set_option maxHeartbeats 4000000 in
theorem rtime12_any (n : Int) (w : World) :
    Calls Try.prog 40 #[.int .i64 n] w fun e w' => e = .returned (.int .i64 (timeN n)) ∧ w = w' := by
  by_cases h0 : n < 0
  · have HX : Hid (timeN n = 0) := if_pos h0
    have d0 : decide (n < 0) = true := decide_eq_true h0
    clear h0
    go_enter Try.func40, Try.ntmps40
    go_wp2
    go_ret
    exact ⟨ret_intP HX.out.symm, rfl⟩
  · by_cases h1 : 4611686018427387904 < n
    · have HX : Hid (timeN n = 4611686018427387904) := by unfold timeN; rw [Hid, if_neg h0, if_pos h1]
      have d0 : decide (n < 0) = false := decide_eq_false h0
      have d1 : decide (4611686018427387904 < n) = true := decide_eq_true h1
      clear h0 h1
      go_enter Try.func40, Try.ntmps40
      go_wp2
      go_ret
      exact ⟨ret_intP HX.out.symm, rfl⟩
    · have HX : Hid (timeN n = n) := by unfold timeN; rw [Hid, if_neg h0, if_neg h1]
      have d0 : decide (n < 0) = false := decide_eq_false h0
      have d1 : decide (4611686018427387904 < n) = false := decide_eq_false h1
      clear h0 h1
      go_enter Try.func40, Try.ntmps40
      go_wp2
      go_ret
      exact ⟨ret_intP HX.out.symm, rfl⟩
set_option maxHeartbeats 4000000 in
theorem rnew12_any (ev of : Int) (sl : Bool) (w : World) :
    Calls Try.prog 10 #[.int .i64 ev, .int .i64 of, .bool sl] w fun e w' => e = .returned (.tuple #[.agg (pmA (newP ev of sl)), .bool (mayB ev of)]) ∧ Below w.heap.size w w' := by
  have HB := Lib.hid (Below.refl w.heap.size w)
  by_cases h0 : ev < 1
  · have HM : Hid (mayB ev of = false) := by rw [Hid, ← Bool.not_eq_true, mayB_iff]; omega
    have HX : Hid (newP ev of sl = zPm) := by unfold newP; rw [Hid, HM.out]; rfl
    have d0 : decide (ev < 1) = true := decide_eq_true h0
    clear h0
    go_enter Try.func10, Try.ntmps10
    go_upto_region 1 with ((refine big_alloc rfl 30 rfl (pmA zPm) (by kernel_rfl) ?_; intro gK6 wK6 hlK6 nK6 hbK6; have K6 := Lib.hid nK6; have LK6 := Lib.hid (Nat.le_trans (HB.out).size hlK6); replace HB := Lib.hid (bstep HB.out hbK6); clear hlK6 nK6 hbK6; try simp only [Act.put, List.setIfInBounds_toArray, List.set_cons_zero, List.set_cons_succ]))
    go_wp2_with (first | (refine big_fill rfl 30 _ _ rfl gK6 (pmA zPm) rfl rfl K6.out (by kernel_rfl) (by kernel_rfl) (by kernel_rfl) ?_; intro vK60 nK6 htK6; replace K6 := Lib.hid nK6; replace HB := Lib.hid (btouch HB.out htK6 LK6.out); clear nK6 htK6; try simp only [Act.put, List.setIfInBounds_toArray, List.set_cons_zero, List.set_cons_succ]) | (refine big_build rfl 30 _ rfl (pmA zPm) (by kernel_rfl) ?_; try simp only [Act.put, List.setIfInBounds_toArray, List.set_cons_zero, List.set_cons_succ]))
    refine bodyPost_ret (v := .tuple #[.agg (pmA zPm), .bool false]) (results_two rfl _ _ gK6 _ _ _ _ rfl rfl K6.out Try.underlying30 rfl (by kernel_rfl)) rfl ?_
    rw [HM.out, HX.out]
    exact ⟨rfl, HB.out⟩
  · by_cases h1 : 1099511627776 < ev
    · have HM : Hid (mayB ev of = false) := by rw [Hid, ← Bool.not_eq_true, mayB_iff]; omega
      have HX : Hid (newP ev of sl = zPm) := by unfold newP; rw [Hid, HM.out]; rfl
      have d0 : decide (ev < 1) = false := decide_eq_false h0
      have d1 : decide (1099511627776 < ev) = true := decide_eq_true h1
      clear h0 h1
      go_enter Try.func10, Try.ntmps10
      go_upto_region 1 with ((refine big_alloc rfl 30 rfl (pmA zPm) (by kernel_rfl) ?_; intro gK6 wK6 hlK6 nK6 hbK6; have K6 := Lib.hid nK6; have LK6 := Lib.hid (Nat.le_trans (HB.out).size hlK6); replace HB := Lib.hid (bstep HB.out hbK6); clear hlK6 nK6 hbK6; try simp only [Act.put, List.setIfInBounds_toArray, List.set_cons_zero, List.set_cons_succ]))
      go_wp2_with (first | (refine big_fill rfl 30 _ _ rfl gK6 (pmA zPm) rfl rfl K6.out (by kernel_rfl) (by kernel_rfl) (by kernel_rfl) ?_; intro vK60 nK6 htK6; replace K6 := Lib.hid nK6; replace HB := Lib.hid (btouch HB.out htK6 LK6.out); clear nK6 htK6; try simp only [Act.put, List.setIfInBounds_toArray, List.set_cons_zero, List.set_cons_succ]) | (refine big_build rfl 30 _ rfl (pmA zPm) (by kernel_rfl) ?_; try simp only [Act.put, List.setIfInBounds_toArray, List.set_cons_zero, List.set_cons_succ]))
      refine bodyPost_ret (v := .tuple #[.agg (pmA zPm), .bool false]) (results_two rfl _ _ gK6 _ _ _ _ rfl rfl K6.out Try.underlying30 rfl (by kernel_rfl)) rfl ?_
      rw [HM.out, HX.out]
      exact ⟨rfl, HB.out⟩
    · by_cases h2 : of < 2
      · have HM : Hid (mayB ev of = false) := by rw [Hid, ← Bool.not_eq_true, mayB_iff]; omega
        have HX : Hid (newP ev of sl = zPm) := by unfold newP; rw [Hid, HM.out]; rfl
        have d0 : decide (ev < 1) = false := decide_eq_false h0
        have d1 : decide (1099511627776 < ev) = false := decide_eq_false h1
        have d2 : decide (of < 2) = true := decide_eq_true h2
        clear h0 h1 h2
        go_enter Try.func10, Try.ntmps10
        go_upto_region 1 with ((refine big_alloc rfl 30 rfl (pmA zPm) (by kernel_rfl) ?_; intro gK6 wK6 hlK6 nK6 hbK6; have K6 := Lib.hid nK6; have LK6 := Lib.hid (Nat.le_trans (HB.out).size hlK6); replace HB := Lib.hid (bstep HB.out hbK6); clear hlK6 nK6 hbK6; try simp only [Act.put, List.setIfInBounds_toArray, List.set_cons_zero, List.set_cons_succ]))
        go_wp2_with (first | (refine big_fill rfl 30 _ _ rfl gK6 (pmA zPm) rfl rfl K6.out (by kernel_rfl) (by kernel_rfl) (by kernel_rfl) ?_; intro vK60 nK6 htK6; replace K6 := Lib.hid nK6; replace HB := Lib.hid (btouch HB.out htK6 LK6.out); clear nK6 htK6; try simp only [Act.put, List.setIfInBounds_toArray, List.set_cons_zero, List.set_cons_succ]) | (refine big_build rfl 30 _ rfl (pmA zPm) (by kernel_rfl) ?_; try simp only [Act.put, List.setIfInBounds_toArray, List.set_cons_zero, List.set_cons_succ]))
        refine bodyPost_ret (v := .tuple #[.agg (pmA zPm), .bool false]) (results_two rfl _ _ gK6 _ _ _ _ rfl rfl K6.out Try.underlying30 rfl (by kernel_rfl)) rfl ?_
        rw [HM.out, HX.out]
        exact ⟨rfl, HB.out⟩
      · by_cases h3 : 10 < of
        · have HM : Hid (mayB ev of = false) := by rw [Hid, ← Bool.not_eq_true, mayB_iff]; omega
          have HX : Hid (newP ev of sl = zPm) := by unfold newP; rw [Hid, HM.out]; rfl
          have d0 : decide (ev < 1) = false := decide_eq_false h0
          have d1 : decide (1099511627776 < ev) = false := decide_eq_false h1
          have d2 : decide (of < 2) = false := decide_eq_false h2
          have d3 : decide (10 < of) = true := decide_eq_true h3
          clear h0 h1 h2 h3
          go_enter Try.func10, Try.ntmps10
          go_upto_region 1 with ((refine big_alloc rfl 30 rfl (pmA zPm) (by kernel_rfl) ?_; intro gK6 wK6 hlK6 nK6 hbK6; have K6 := Lib.hid nK6; have LK6 := Lib.hid (Nat.le_trans (HB.out).size hlK6); replace HB := Lib.hid (bstep HB.out hbK6); clear hlK6 nK6 hbK6; try simp only [Act.put, List.setIfInBounds_toArray, List.set_cons_zero, List.set_cons_succ]))
          go_wp2_with (first | (refine big_fill rfl 30 _ _ rfl gK6 (pmA zPm) rfl rfl K6.out (by kernel_rfl) (by kernel_rfl) (by kernel_rfl) ?_; intro vK60 nK6 htK6; replace K6 := Lib.hid nK6; replace HB := Lib.hid (btouch HB.out htK6 LK6.out); clear nK6 htK6; try simp only [Act.put, List.setIfInBounds_toArray, List.set_cons_zero, List.set_cons_succ]) | (refine big_build rfl 30 _ rfl (pmA zPm) (by kernel_rfl) ?_; try simp only [Act.put, List.setIfInBounds_toArray, List.set_cons_zero, List.set_cons_succ]))
          refine bodyPost_ret (v := .tuple #[.agg (pmA zPm), .bool false]) (results_two rfl _ _ gK6 _ _ _ _ rfl rfl K6.out Try.underlying30 rfl (by kernel_rfl)) rfl ?_
          rw [HM.out, HX.out]
          exact ⟨rfl, HB.out⟩
        · have HM : Hid (mayB ev of = true) := mayB_iff.2 ⟨⟨by omega, by omega⟩, by omega, by omega⟩
          have HX : Hid (newP ev of sl = ⟨ev, of, sl, 1, 0⟩) := by unfold newP; rw [Hid, HM.out]; rfl
          have d0 : decide (ev < 1) = false := decide_eq_false h0
          have d1 : decide (1099511627776 < ev) = false := decide_eq_false h1
          have d2 : decide (of < 2) = false := decide_eq_false h2
          have d3 : decide (10 < of) = false := decide_eq_false h3
          clear h0 h1 h2 h3
          go_enter Try.func10, Try.ntmps10
          go_upto_region 1 with ((refine big_alloc rfl 30 rfl (pmA zPm) (by kernel_rfl) ?_; intro gK6 wK6 hlK6 nK6 hbK6; have K6 := Lib.hid nK6; have LK6 := Lib.hid (Nat.le_trans (HB.out).size hlK6); replace HB := Lib.hid (bstep HB.out hbK6); clear hlK6 nK6 hbK6; try simp only [Act.put, List.setIfInBounds_toArray, List.set_cons_zero, List.set_cons_succ]))
          go_wp2_with (first | (refine big_fill rfl 30 _ _ rfl gK6 (pmA ⟨ev, of, sl, 1, 0⟩) rfl rfl K6.out (by kernel_rfl) (by kernel_rfl) (by kernel_rfl) ?_; intro vK60 nK6 htK6; replace K6 := Lib.hid nK6; replace HB := Lib.hid (btouch HB.out htK6 LK6.out); clear nK6 htK6; try simp only [Act.put, List.setIfInBounds_toArray, List.set_cons_zero, List.set_cons_succ]) | (refine big_build rfl 30 _ rfl (pmA ⟨ev, of, sl, 1, 0⟩) (by kernel_rfl) ?_; try simp only [Act.put, List.setIfInBounds_toArray, List.set_cons_zero, List.set_cons_succ]))
          refine bodyPost_ret (v := .tuple #[.agg (pmA ⟨ev, of, sl, 1, 0⟩), .bool true]) (results_two rfl _ _ gK6 _ _ _ _ rfl rfl K6.out Try.underlying30 rfl (by kernel_rfl)) rfl ?_
          rw [HM.out, HX.out]
          exact ⟨rfl, HB.out⟩
set_option maxHeartbeats 4000000 in
theorem rrest12_any (m : Pm) (st : Int) (w : World) :
    Calls Try.prog 26 #[.agg (pmA m), .int .i64 st] w fun e w' => e = .returned (.agg (pmA (restP m st))) ∧ Below w.heap.size w w' := by
  have HB := Lib.hid (Below.refl w.heap.size w)
  go_enter Try.func26, Try.ntmps26
  go_upto_region 1 with (first | (refine big_alloc rfl 30 rfl (pmA zPm) (by kernel_rfl) ?_; intro gK4 wK4 hlK4 nK4 hbK4; have K4 := Lib.hid nK4; have LK4 := Lib.hid (Nat.le_trans (HB.out).size hlK4); have OK2K4 := Lib.hid ((K2.out).off hlK4); replace K2 := Lib.hid ((K2.out).keptB hbK4); replace HB := Lib.hid (bstep HB.out hbK4); clear hlK4 nK4 hbK4; try simp only [Act.put, List.setIfInBounds_toArray, List.set_cons_zero, List.set_cons_succ]) | (refine big_box rfl 30 _ rfl (pmA m) rfl (by kernel_rfl) ?_; intro gK2 wK2 hlK2 nK2 hbK2; have K2 := Lib.hid nK2; have LK2 := Lib.hid (Nat.le_trans (HB.out).size hlK2); replace HB := Lib.hid (bstep HB.out hbK2); clear hlK2 nK2 hbK2; try simp only [Act.put, List.setIfInBounds_toArray, List.set_cons_zero, List.set_cons_succ]))
  go_upto_region 2 with ((refine big_set rfl 3 _ _ rfl gK2 3 (.int .i64 st) rfl rfl K2.out (by kernel_rfl) rfl rfl (of_decide_eq_true (by kernel_rfl)) (pmA ⟨m.ev, m.of, m.sl, st, m.un⟩) (by kernel_rfl) ?_; intro vK21 nK2 htK2; replace K2 := Lib.hid nK2; replace K4 := Lib.hid ((K4.out).touch htK2 (Ne.symm OK2K4.out)); replace HB := Lib.hid (btouch HB.out htK2 LK2.out); clear nK2 htK2; try simp only [Act.put, List.setIfInBounds_toArray, List.set_cons_zero, List.set_cons_succ]))
  go_upto_region 3 with ((refine big_set rfl 3 _ _ rfl gK2 4 (.int .i64 0) rfl rfl K2.out (by kernel_rfl) rfl rfl (of_decide_eq_true (by kernel_rfl)) (pmA (restP m st)) (by kernel_rfl) ?_; intro vK22 nK2 htK2; replace K2 := Lib.hid nK2; replace K4 := Lib.hid ((K4.out).touch htK2 (Ne.symm OK2K4.out)); replace HB := Lib.hid (btouch HB.out htK2 LK2.out); clear nK2 htK2; try simp only [Act.put, List.setIfInBounds_toArray, List.set_cons_zero, List.set_cons_succ]))
  go_wp2_with (first | (refine big_fill rfl 30 _ _ rfl gK4 (pmA (restP m st)) rfl rfl K4.out (by kernel_rfl) (by kernel_rfl) (by kernel_rfl) ?_; intro vK43 nK4 htK4; replace K4 := Lib.hid nK4; replace K2 := Lib.hid ((K2.out).touch htK4 OK2K4.out); replace HB := Lib.hid (btouch HB.out htK4 LK4.out); clear nK4 htK4; try simp only [Act.put, List.setIfInBounds_toArray, List.set_cons_zero, List.set_cons_succ]) | (refine big_whole rfl 30 _ rfl gK2 rfl K2.out Try.underlying30 rfl (by kernel_rfl) ?_; try simp only [Act.put, List.setIfInBounds_toArray, List.set_cons_zero, List.set_cons_succ]))
  refine bodyPost_ret (v := .agg (pmA (restP m st))) (results_cell_row rfl _ _ gK4 _ _ (0, 0) _ rfl K4.out Try.underlying30 rfl (by kernel_rfl)) rfl ?_
  exact ⟨rfl, HB.out⟩
set_option maxHeartbeats 4000000 in
theorem ranew12_any (m : Pm) (st now : Int) (w : World) (ok : m.ok) :
    Calls Try.prog 25 #[.agg (pmA m), .int .i64 st, .int .i64 now] w fun e w' => e = .returned (.agg (pmA (anewP m st now))) ∧ Below w.heap.size w w' := by
  have HB := Lib.hid (Below.refl w.heap.size w)
  obtain ⟨d, hd⟩ : ∃ d, m.of * m.ev = d := ⟨_, rfl⟩
  have HX : Hid (anewP m st now = ⟨m.ev, m.of, m.sl, st, timeN (timeN now + d)⟩) := by unfold anewP; rw [Hid, hd]
  obtain ⟨d0, d1⟩ := ok.span
  rw [hd] at d0 d1
  obtain ⟨t0, t1⟩ := timeN_bd now
  obtain ⟨tn, htn⟩ : ∃ tn, timeN now = tn := ⟨_, rfl⟩
  rw [htn] at t0 t1 HX
  have HTN := Lib.hid htn
  clear htn ok
  go_enter Try.func25, Try.ntmps25
  go_upto_region 1 with (first | (refine big_alloc rfl 30 rfl (pmA zPm) (by kernel_rfl) ?_; intro gK6 wK6 hlK6 nK6 hbK6; have K6 := Lib.hid nK6; have LK6 := Lib.hid (Nat.le_trans (HB.out).size hlK6); have OK3K6 := Lib.hid ((K3.out).off hlK6); replace K3 := Lib.hid ((K3.out).keptB hbK6); replace HB := Lib.hid (bstep HB.out hbK6); clear hlK6 nK6 hbK6; try simp only [Act.put, List.setIfInBounds_toArray, List.set_cons_zero, List.set_cons_succ]) | (refine big_box rfl 30 _ rfl (pmA m) rfl (by kernel_rfl) ?_; intro gK3 wK3 hlK3 nK3 hbK3; have K3 := Lib.hid nK3; have LK3 := Lib.hid (Nat.le_trans (HB.out).size hlK3); replace HB := Lib.hid (bstep HB.out hbK3); clear hlK3 nK3 hbK3; try simp only [Act.put, List.setIfInBounds_toArray, List.set_cons_zero, List.set_cons_succ]))
  go_upto_region 2 with ((refine big_set rfl 3 _ _ rfl gK3 3 (.int .i64 st) rfl rfl K3.out (by kernel_rfl) rfl rfl (of_decide_eq_true (by kernel_rfl)) (pmA ⟨m.ev, m.of, m.sl, st, m.un⟩) (by kernel_rfl) ?_; intro vK31 nK3 htK3; replace K3 := Lib.hid nK3; replace K6 := Lib.hid ((K6.out).touch htK3 (Ne.symm OK3K6.out)); replace HB := Lib.hid (btouch HB.out htK3 LK3.out); clear nK3 htK3; try simp only [Act.put, List.setIfInBounds_toArray, List.set_cons_zero, List.set_cons_succ]))
  replace K3 := Lib.hid ((K3.out).drew)
  refine wp_region_end (S := fun v => Below w.heap.size w v ∧ Holds v gK3 30 (pmA ⟨m.ev, m.of, m.sl, st, m.un⟩) ∧ Holds v gK6 30 (pmA zPm)) 10 (by kernel_rfl) ?_ (fun hHeld => ?_)
  · exact ⟨bdrew HB.out, K3.out, (K6.out).drew⟩
  clear HB K6
  refine wpAnyE_take (hfb := by kernel_rfl) (i := 0) (v := .int .i64 now) (at_list rfl) (by kernel_rfl) (by kernel_rfl) (by kernel_rfl) (fun _ _ _ h => h) (Or.inl ⟨by rfl, ?_⟩) hHeld ?_
  · intro v hSv
    clear hHeld
    go_simp
  try simp only [Act.put, List.setIfInBounds_toArray, List.set_cons_zero, List.set_cons_succ]
  refine wpAnyE_take (hfb := by kernel_rfl) (i := 2) (v := .pointer (some ⟨gK3, 1, none⟩)) (at_list rfl) (by kernel_rfl) (by kernel_rfl) (by kernel_rfl) (fun _ _ _ h => h) (Or.inl ⟨by rfl, ?_⟩) hHeld ?_
  · intro v hSv
    clear hHeld
    go_simp
  try simp only [Act.put, List.setIfInBounds_toArray, List.set_cons_zero, List.set_cons_succ]
  refine wpAnyE_take (hfb := by kernel_rfl) (i := 3) (v := .int .i64 m.of) (at_list rfl) (by kernel_rfl) (by kernel_rfl) (by kernel_rfl) (fun _ _ _ h => h) (Or.inl ⟨by rfl, ?_⟩) hHeld ?_
  · intro v hSv
    clear hHeld
    have q := Holds.reads (hSv.2.1) (i := 1) (x := .int .i64 m.of) rfl
    clear hSv
    go_simp
  try simp only [Act.put, List.setIfInBounds_toArray, List.set_cons_zero, List.set_cons_succ]
  refine wpAnyE_take (hfb := by kernel_rfl) (i := 4) (v := .pointer (some ⟨gK3, 0, none⟩)) (at_list rfl) (by kernel_rfl) (by kernel_rfl) (by kernel_rfl) (fun _ _ _ h => h) (Or.inl ⟨by rfl, ?_⟩) hHeld ?_
  · intro v hSv
    clear hHeld
    go_simp
  try simp only [Act.put, List.setIfInBounds_toArray, List.set_cons_zero, List.set_cons_succ]
  refine wpAnyE_take (hfb := by kernel_rfl) (i := 5) (v := .int .i64 m.ev) (at_list rfl) (by kernel_rfl) (by kernel_rfl) (by kernel_rfl) (fun _ _ _ h => h) (Or.inl ⟨by rfl, ?_⟩) hHeld ?_
  · intro v hSv
    clear hHeld
    have q := Holds.reads (hSv.2.1) (i := 0) (x := .int .i64 m.ev) rfl
    clear hSv
    go_simp
  try simp only [Act.put, List.setIfInBounds_toArray, List.set_cons_zero, List.set_cons_succ]
  refine wpAnyE_take (hfb := by kernel_rfl) (i := 6) (v := .int .i64 d) (at_list rfl) (by kernel_rfl) (by kernel_rfl) (by kernel_rfl) (fun _ _ _ h => h) (Or.inl ⟨by rfl, ?_⟩) hHeld ?_
  · intro v hSv
    clear hHeld
    go_simp
    rw [IntKind.wrap_i64]
    omega
  try simp only [Act.put, List.setIfInBounds_toArray, List.set_cons_zero, List.set_cons_succ]
  refine wpAnyE_ready (i := 1) (by kernel_rfl) (at_list rfl) (fun K hK => ?_)
  go_simp
  refine (rtime12_any now _).mono ?_
  rintro e v1 ⟨rfl, rfl⟩
  rw [HTN.out]
  go_wp2_with fail
  refine hK.out _ _ ?_ (fun hHeld2 => ?_)
  · exact hHeld
  clear hK K hHeld
  have hHeld := hHeld2
  clear hHeld2
  try simp only [Act.put, List.setIfInBounds_toArray, List.set_cons_zero, List.set_cons_succ]
  refine wpAnyE_take (hfb := by kernel_rfl) (i := 7) (v := .int .i64 (tn + d)) (at_list rfl) (by kernel_rfl) (by kernel_rfl) (by kernel_rfl) (fun _ _ _ h => h) (Or.inl ⟨by rfl, ?_⟩) hHeld ?_
  · intro v hSv
    clear hHeld
    go_simp
    rw [IntKind.wrap_i64]
    omega
  try simp only [Act.put, List.setIfInBounds_toArray, List.set_cons_zero, List.set_cons_succ]
  refine wpAnyE_ready (i := 8) (by kernel_rfl) (at_list rfl) (fun K hK => ?_)
  go_simp
  refine (rtime12_any (tn + d) _).mono ?_
  rintro e v1 ⟨rfl, rfl⟩
  go_wp2_with fail
  refine hK.out _ _ ?_ (fun hHeld2 => ?_)
  · exact hHeld
  clear hK K hHeld
  have hHeld := hHeld2
  clear hHeld2
  try simp only [Act.put, List.setIfInBounds_toArray, List.set_cons_zero, List.set_cons_succ]
  refine wpAnyE_take (hfb := by kernel_rfl) (i := 9) (v := .pointer (some ⟨gK3, 4, none⟩)) (at_list rfl) (by kernel_rfl) (by kernel_rfl) (by kernel_rfl) (fun _ _ _ h => h) (Or.inl ⟨by rfl, ?_⟩) hHeld ?_
  · intro v hSv
    clear hHeld
    go_simp
  try simp only [Act.put, List.setIfInBounds_toArray, List.set_cons_zero, List.set_cons_succ]
  refine wpAnyE_last (by kernel_rfl) (at_list rfl) (by kernel_rfl) (fun K hK => ?_)
  refine step_set (by rfl) 3 _ _ rfl gK3 4 (.int .i64 (timeN (tn + d))) rfl rfl hHeld.2.1 (by kernel_rfl) rfl rfl (of_decide_eq_true (by kernel_rfl)) (pmA ⟨m.ev, m.of, m.sl, st, timeN (tn + d)⟩) (by kernel_rfl) ?_
  intro vK35 nK3 htK3
  clear K3
  have HB := Lib.hid (btouch hHeld.1 htK3 LK3.out)
  have K6 := Lib.hid ((hHeld.2.2).touch htK3 (Ne.symm OK3K6.out))
  have K3 := Lib.hid nK3
  clear nK3 htK3
  refine hK.out _ _ ?_
  clear hK K hHeld
  try simp only [Act.put]
  go_wp2_with (first | (refine big_fill rfl 30 _ _ rfl gK6 (pmA ⟨m.ev, m.of, m.sl, st, timeN (tn + d)⟩) rfl rfl K6.out (by kernel_rfl) (by kernel_rfl) (by kernel_rfl) ?_; intro vK69 nK6 htK6; replace HB := Lib.hid (btouch HB.out htK6 LK6.out); replace K6 := Lib.hid nK6; clear nK6 htK6; try simp only [Act.put, List.setIfInBounds_toArray, List.set_cons_zero, List.set_cons_succ]) | (refine big_whole rfl 30 _ rfl gK3 rfl K3.out Try.underlying30 rfl (by kernel_rfl) ?_; try simp only [Act.put, List.setIfInBounds_toArray, List.set_cons_zero, List.set_cons_succ]))
  refine bodyPost_ret (v := .agg (pmA ⟨m.ev, m.of, m.sl, st, timeN (tn + d)⟩)) (results_cell_row rfl _ _ gK6 _ _ (0, 0) _ rfl K6.out Try.underlying30 rfl (by kernel_rfl)) rfl ?_
  rw [HX.out]
  exact ⟨rfl, HB.out⟩
set_option maxHeartbeats 4000000 in
theorem rhears12_any (m : Pm) (w : World) :
    Calls Try.prog 27 #[.agg (pmA m)] w fun e w' => e = .returned (.bool (hearsB m)) ∧ Below w.heap.size w w' := by
  have HB := Lib.hid (Below.refl w.heap.size w)
  by_cases t4 : m.st = 4
  · have d4 : (m.st == 4) = true := by simp [t4]
    have HX : Hid (hearsB m = true) := by unfold hearsB; rw [Hid, d4]; rfl
    clear t4
    go_enter Try.func27, Try.ntmps27
    go_upto_region 1 with ((refine big_box rfl 30 _ rfl (pmA m) rfl (by kernel_rfl) ?_; intro gK1 wK1 hlK1 nK1 hbK1; have K1 := Lib.hid nK1; have LK1 := Lib.hid (Nat.le_trans (HB.out).size hlK1); replace HB := Lib.hid (bstep HB.out hbK1); clear hlK1 nK1 hbK1; try simp only [Act.put, List.setIfInBounds_toArray, List.set_cons_zero, List.set_cons_succ]))
    have x3 := (K1.out).reads (i := 3) (x := .int .i64 m.st) rfl
    go_wp2
    go_ret
    exact ⟨ret_boolP HX.out.symm, HB.out⟩
  · by_cases t7 : m.st = 7
    · have d4 : (m.st == 4) = false := by simpa using t4
      have d7 : (m.st == 7) = true := by simp [t7]
      have HX : Hid (hearsB m = true) := by unfold hearsB; rw [Hid, d4, d7]; rfl
      clear t4 t7
      go_enter Try.func27, Try.ntmps27
      go_upto_region 1 with ((refine big_box rfl 30 _ rfl (pmA m) rfl (by kernel_rfl) ?_; intro gK1 wK1 hlK1 nK1 hbK1; have K1 := Lib.hid nK1; have LK1 := Lib.hid (Nat.le_trans (HB.out).size hlK1); replace HB := Lib.hid (bstep HB.out hbK1); clear hlK1 nK1 hbK1; try simp only [Act.put, List.setIfInBounds_toArray, List.set_cons_zero, List.set_cons_succ]))
      have x3 := (K1.out).reads (i := 3) (x := .int .i64 m.st) rfl
      go_wp2
      go_ret
      exact ⟨ret_boolP HX.out.symm, HB.out⟩
    · by_cases t8 : m.st = 8
      · have d4 : (m.st == 4) = false := by simpa using t4
        have d7 : (m.st == 7) = false := by simpa using t7
        have d8 : (m.st == 8) = true := by simp [t8]
        have HX : Hid (hearsB m = true) := by unfold hearsB; rw [Hid, d4, d7, d8]; rfl
        clear t4 t7 t8
        go_enter Try.func27, Try.ntmps27
        go_upto_region 1 with ((refine big_box rfl 30 _ rfl (pmA m) rfl (by kernel_rfl) ?_; intro gK1 wK1 hlK1 nK1 hbK1; have K1 := Lib.hid nK1; have LK1 := Lib.hid (Nat.le_trans (HB.out).size hlK1); replace HB := Lib.hid (bstep HB.out hbK1); clear hlK1 nK1 hbK1; try simp only [Act.put, List.setIfInBounds_toArray, List.set_cons_zero, List.set_cons_succ]))
        have x3 := (K1.out).reads (i := 3) (x := .int .i64 m.st) rfl
        go_wp2
        go_ret
        exact ⟨ret_boolP HX.out.symm, HB.out⟩
      · by_cases t9 : m.st = 9
        · have d4 : (m.st == 4) = false := by simpa using t4
          have d7 : (m.st == 7) = false := by simpa using t7
          have d8 : (m.st == 8) = false := by simpa using t8
          have d9 : (m.st == 9) = true := by simp [t9]
          have HX : Hid (hearsB m = true) := by unfold hearsB; rw [Hid, d4, d7, d8, d9]; rfl
          clear t4 t7 t8 t9
          go_enter Try.func27, Try.ntmps27
          go_upto_region 1 with ((refine big_box rfl 30 _ rfl (pmA m) rfl (by kernel_rfl) ?_; intro gK1 wK1 hlK1 nK1 hbK1; have K1 := Lib.hid nK1; have LK1 := Lib.hid (Nat.le_trans (HB.out).size hlK1); replace HB := Lib.hid (bstep HB.out hbK1); clear hlK1 nK1 hbK1; try simp only [Act.put, List.setIfInBounds_toArray, List.set_cons_zero, List.set_cons_succ]))
          have x3 := (K1.out).reads (i := 3) (x := .int .i64 m.st) rfl
          go_wp2
          go_ret
          exact ⟨ret_boolP HX.out.symm, HB.out⟩
        · have d4 : (m.st == 4) = false := by simpa using t4
          have d7 : (m.st == 7) = false := by simpa using t7
          have d8 : (m.st == 8) = false := by simpa using t8
          have d9 : (m.st == 9) = false := by simpa using t9
          have HX : Hid (hearsB m = false) := by unfold hearsB; rw [Hid, d4, d7, d8, d9]; rfl
          clear t4 t7 t8 t9
          go_enter Try.func27, Try.ntmps27
          go_upto_region 1 with ((refine big_box rfl 30 _ rfl (pmA m) rfl (by kernel_rfl) ?_; intro gK1 wK1 hlK1 nK1 hbK1; have K1 := Lib.hid nK1; have LK1 := Lib.hid (Nat.le_trans (HB.out).size hlK1); replace HB := Lib.hid (bstep HB.out hbK1); clear hlK1 nK1 hbK1; try simp only [Act.put, List.setIfInBounds_toArray, List.set_cons_zero, List.set_cons_succ]))
          have x3 := (K1.out).reads (i := 3) (x := .int .i64 m.st) rfl
          go_wp2
          go_ret
          exact ⟨ret_boolP HX.out.symm, HB.out⟩

end Go.Proofs.Ytibhhhadjpmjiaa
