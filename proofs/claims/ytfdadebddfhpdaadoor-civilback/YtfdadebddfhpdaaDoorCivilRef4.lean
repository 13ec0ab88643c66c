/- The walk over the reference's Of of layer 15. -/
import Derived.Test.YtfdadebddfhpdaaDoorCivilRef3
import Derived.Deep.DeepCutAuto
namespace Go.Proofs.YtfdadebddfhpdaaDoor
set_option maxRecDepth 100000
open Go.RowKit
set_option linter.unusedVariables false
set_option linter.unusedSimpArgs false

def ofL (y m d r : Int) : Lb := ⟨y, m, d, r / 3600, (r - r / 3600 * 3600) / 60, r - r / 3600 * 3600 - (r - r / 3600 * 3600) / 60 * 60⟩
theorem dayN_bd {y m d : Int} (h : dayB y m d = true) : 0 ≤ dayN y m d ∧ dayN y m d ≤ 4000000 := by
  obtain ⟨⟨y0, y1⟩, ⟨m0, m1⟩, d0, d1⟩ := dayB_iff.1 h
  have a := yearsN_nn (y - 1970).toNat
  have b := monsN_nn y (m - 1).toNat
  have c := yearsN_le (y - 1970).toNat
  have e := monsN_le y (m - 1).toNat
  have f := (monN_bd y m).2
  unfold dayN
  omega

set_option maxHeartbeats 4000000 in
theorem rof15_yes (y m d r : Int) (w : World) (h : dayB y m d = true) (r0 : 0 ≤ r) (r1 : r < 86400) :
    Calls Tryd.prog 21 #[.int .i64 (dayN y m d * 86400 + r)] w fun e w' => e = .returned (.tuple #[.agg (lbA (ofL y m d r)), .bool true]) ∧ Below w.heap.size w w' := by
  have HB := Lib.hid (Below.refl w.heap.size w)
  have C := fun w => rdate15_yes y m d w h
  have HD := dayN_bd h
  obtain ⟨X, HX⟩ : ∃ z_, Hid (dayN y m d = z_) := ⟨_, Lib.hid rfl⟩
  rw [HX.out] at C HD ⊢
  replace C := Lib.hid C
  clear h
  obtain ⟨S, hS⟩ : ∃ S, X * 86400 + r = S := ⟨_, rfl⟩
  obtain ⟨hh, hh0⟩ : ∃ x, r / 3600 = x := ⟨_, rfl⟩
  obtain ⟨mi, mi0⟩ : ∃ x, (r - hh * 3600) / 60 = x := ⟨_, rfl⟩
  have HL : Hid (ofL y m d r = ⟨y, m, d, hh, mi, r - hh * 3600 - mi * 60⟩) := by unfold ofL; rw [hh0, mi0]; rfl
  have s0 : 0 ≤ S ∧ S ≤ 400000000000 := by omega
  have a0 : decide (S < 0) = false := decide_eq_false (by omega)
  have q1 : IntKind.i64.wrap (S.tdiv 86400) = X := by rw [Int.tdiv_eq_ediv_of_nonneg s0.1, IntKind.wrap_i64]; omega
  have q2 : IntKind.i64.wrap (S.tmod 86400) = r := by rw [Int.tmod_eq_emod_of_nonneg s0.1, IntKind.wrap_i64]; omega
  have q3 : IntKind.i64.wrap (r.tdiv 3600) = hh := by rw [Int.tdiv_eq_ediv_of_nonneg r0, IntKind.wrap_i64]; omega
  have e0 : 0 ≤ hh ∧ hh ≤ 23 := by omega
  have e1 : 0 ≤ r - hh * 3600 ∧ r - hh * 3600 ≤ 3599 := by omega
  have q4 : IntKind.i64.wrap ((r - hh * 3600).tdiv 60) = mi := by rw [Int.tdiv_eq_ediv_of_nonneg e1.1, IntKind.wrap_i64]; omega
  have e2 : 0 ≤ mi ∧ mi ≤ 59 := by omega
  have p2 : S % 86400 = r := by omega
  have p4 : (r - hh * 3600).tdiv 60 = mi := by rw [Int.tdiv_eq_ediv_of_nonneg e1.1]; exact mi0
  rw [hS]
  clear hS mi0 HD
  go_enter Tryd.func21, Tryd.ntmps21
  go_upto_region 1 with ((refine big_alloc rfl 27 rfl (lbA zLb) (by kernel_rfl) ?_; intro gK2 wK2 hlK2 nK2 hbK2; have K2 := Lib.hid nK2; have LK2 := Lib.hid (Nat.le_trans (HB.out).size hlK2); replace HB := Lib.hid (bstep HB.out hbK2); clear hlK2 nK2 hbK2; try simp only [Act.put, List.setIfInBounds_toArray, List.set_cons_zero, List.set_cons_succ]))
  go_upto_region 3 with fail
  clear a0
  go_wp2_with fail
  refine (C.out _).mono ?_
  rintro e c1 ⟨rfl, hc1⟩
  replace K2 := Lib.hid ((K2.out).keptB hc1)
  replace HB := Lib.hid (bstep HB.out hc1)
  clear hc1
  go_upto_region 4 with (first | (refine big_fill rfl 27 _ _ rfl gK4 (lbA ⟨y, m, d, 0, 0, 0⟩) rfl rfl K4.out (by kernel_rfl) (by kernel_rfl) (by kernel_rfl) ?_; intro vK41 nK4 htK4; replace K4 := Lib.hid nK4; replace K2 := Lib.hid ((K2.out).touch htK4 OK2K4.out); replace HB := Lib.hid (btouch HB.out htK4 LK4.out); clear nK4 htK4; try simp only [Act.put, List.setIfInBounds_toArray, List.set_cons_zero, List.set_cons_succ]) | (refine big_alloc rfl 27 rfl (lbA zLb) (by kernel_rfl) ?_; intro gK4 wK4 hlK4 nK4 hbK4; have K4 := Lib.hid nK4; have LK4 := Lib.hid (Nat.le_trans (HB.out).size hlK4); have OK2K4 := Lib.hid ((K2.out).off hlK4); replace K2 := Lib.hid ((K2.out).keptB hbK4); replace HB := Lib.hid (bstep HB.out hbK4); clear hlK4 nK4 hbK4; try simp only [Act.put, List.setIfInBounds_toArray, List.set_cons_zero, List.set_cons_succ]))
  go_upto_region 7 with fail
  go_upto_region 8 with ((refine big_set rfl 3 _ _ rfl gK4 3 (.int .i64 hh) rfl (by go_simp) K4.out (by kernel_rfl) rfl rfl (of_decide_eq_true (by kernel_rfl)) (lbA ⟨y, m, d, hh, 0, 0⟩) (by kernel_rfl) ?_; intro vK42 nK4 htK4; replace K4 := Lib.hid nK4; replace K2 := Lib.hid ((K2.out).touch htK4 OK2K4.out); replace HB := Lib.hid (btouch HB.out htK4 LK4.out); clear nK4 htK4; try simp only [Act.put, List.setIfInBounds_toArray, List.set_cons_zero, List.set_cons_succ]))
  have x3 := (K4.out).reads (i := 3) (x := .int .i64 hh) rfl
  go_upto_region 9 with ((refine big_set rfl 3 _ _ rfl gK4 4 (.int .i64 mi) rfl (by go_simp) K4.out (by kernel_rfl) rfl rfl (of_decide_eq_true (by kernel_rfl)) (lbA ⟨y, m, d, hh, mi, 0⟩) (by kernel_rfl) ?_; intro vK43 nK4 htK4; replace K4 := Lib.hid nK4; replace K2 := Lib.hid ((K2.out).touch htK4 OK2K4.out); replace HB := Lib.hid (btouch HB.out htK4 LK4.out); clear nK4 htK4; try simp only [Act.put, List.setIfInBounds_toArray, List.set_cons_zero, List.set_cons_succ]))
  clear x3
  have x3 := (K4.out).reads (i := 3) (x := .int .i64 hh) rfl
  have x4 := (K4.out).reads (i := 4) (x := .int .i64 mi) rfl
  go_upto_region 10 with ((refine big_set rfl 3 _ _ rfl gK4 5 (.int .i64 (r - hh * 3600 - mi * 60)) rfl (by go_simp) K4.out (by kernel_rfl) rfl rfl (of_decide_eq_true (by kernel_rfl)) (lbA ⟨y, m, d, hh, mi, r - hh * 3600 - mi * 60⟩) (by kernel_rfl) ?_; intro vK44 nK4 htK4; replace K4 := Lib.hid nK4; replace K2 := Lib.hid ((K2.out).touch htK4 OK2K4.out); replace HB := Lib.hid (btouch HB.out htK4 LK4.out); clear nK4 htK4; try simp only [Act.put, List.setIfInBounds_toArray, List.set_cons_zero, List.set_cons_succ]))
  clear x3 x4
  go_wp2_with (first | (refine big_fill rfl 27 _ _ rfl gK2 (lbA ⟨y, m, d, hh, mi, r - hh * 3600 - mi * 60⟩) rfl rfl K2.out (by kernel_rfl) (by kernel_rfl) (by kernel_rfl) ?_; intro vK21 nK2 htK2; replace K2 := Lib.hid nK2; replace K4 := Lib.hid ((K4.out).touch htK2 (Ne.symm OK2K4.out)); replace HB := Lib.hid (btouch HB.out htK2 LK2.out); clear nK2 htK2; try simp only [Act.put, List.setIfInBounds_toArray, List.set_cons_zero, List.set_cons_succ]) | (refine big_whole rfl 27 _ rfl gK4 rfl K4.out Tryd.underlying27 rfl (by kernel_rfl) ?_; try simp only [Act.put, List.setIfInBounds_toArray, List.set_cons_zero, List.set_cons_succ]))
  refine bodyPost_ret (v := .tuple #[.agg (lbA ⟨y, m, d, hh, mi, r - hh * 3600 - mi * 60⟩), .bool true]) (results_two rfl _ _ gK2 _ _ _ _ rfl rfl K2.out Tryd.underlying27 rfl (by kernel_rfl)) rfl ?_
  rw [HL.out]
  exact ⟨rfl, HB.out⟩
set_option maxHeartbeats 4000000 in
theorem rof15_no (n : Int) (w : World) (h : n < 0 ∨ yearsN 8030 * 86400 ≤ n) (h1 : n ≤ 9223372036854775807) :
    Calls Tryd.prog 21 #[.int .i64 n] w fun e w' => e = .returned (.tuple #[.agg (lbA zLb), .bool false]) ∧ Below w.heap.size w w' := by
  have HB := Lib.hid (Below.refl w.heap.size w)
  by_cases h0 : n < 0
  · have a0 : decide (n < 0) = true := decide_eq_true h0
    clear h h0
    go_enter Tryd.func21, Tryd.ntmps21
    go_upto_region 1 with ((refine big_alloc rfl 27 rfl (lbA zLb) (by kernel_rfl) ?_; intro gK2 wK2 hlK2 nK2 hbK2; have K2 := Lib.hid nK2; have LK2 := Lib.hid (Nat.le_trans (HB.out).size hlK2); replace HB := Lib.hid (bstep HB.out hbK2); clear hlK2 nK2 hbK2; try simp only [Act.put, List.setIfInBounds_toArray, List.set_cons_zero, List.set_cons_succ]))
    go_upto_region 2 with fail
    clear a0
    go_wp2_with (first | (refine big_fill rfl 27 _ _ rfl gK2 (lbA zLb) rfl rfl K2.out (by kernel_rfl) (by kernel_rfl) (by kernel_rfl) ?_; intro vK21 nK2 htK2; replace K2 := Lib.hid nK2; replace HB := Lib.hid (btouch HB.out htK2 LK2.out); clear nK2 htK2; try simp only [Act.put, List.setIfInBounds_toArray, List.set_cons_zero, List.set_cons_succ]) | (refine big_build rfl 27 _ rfl (lbA zLb) (by kernel_rfl) ?_; try simp only [Act.put, List.setIfInBounds_toArray, List.set_cons_zero, List.set_cons_succ]))
    refine bodyPost_ret (v := .tuple #[.agg (lbA zLb), .bool false]) (results_two rfl _ _ gK2 _ _ _ _ rfl rfl K2.out Tryd.underlying27 rfl (by kernel_rfl)) rfl ?_
    exact ⟨rfl, HB.out⟩
  · have a0 : decide (n < 0) = false := decide_eq_false h0
    have n0 : 0 ≤ n := by omega
    obtain ⟨X, hX⟩ : ∃ X, n / 86400 = X := ⟨_, rfl⟩
    have hN : yearsN 8030 ≤ X := by rw [← hX]; have := h.resolve_left h0; omega
    have q1 : IntKind.i64.wrap (n.tdiv 86400) = X := by rw [Int.tdiv_eq_ediv_of_nonneg n0, IntKind.wrap_i64]; omega
    have C := Lib.hid (fun w => rdate15_no X w (Or.inr hN) (by omega))
    clear h h0 hX hN
    go_enter Tryd.func21, Tryd.ntmps21
    go_upto_region 1 with ((refine big_alloc rfl 27 rfl (lbA zLb) (by kernel_rfl) ?_; intro gK2 wK2 hlK2 nK2 hbK2; have K2 := Lib.hid nK2; have LK2 := Lib.hid (Nat.le_trans (HB.out).size hlK2); replace HB := Lib.hid (bstep HB.out hbK2); clear hlK2 nK2 hbK2; try simp only [Act.put, List.setIfInBounds_toArray, List.set_cons_zero, List.set_cons_succ]))
    go_upto_region 3 with fail
    clear a0
    go_wp2_with fail
    refine (C.out _).mono ?_
    rintro e c1 ⟨rfl, hc1⟩
    replace K2 := Lib.hid ((K2.out).keptB hc1)
    replace HB := Lib.hid (bstep HB.out hc1)
    clear hc1
    go_upto_region 4 with (first | (refine big_fill rfl 27 _ _ rfl gK4 (lbA zLb) rfl rfl K4.out (by kernel_rfl) (by kernel_rfl) (by kernel_rfl) ?_; intro vK41 nK4 htK4; replace K4 := Lib.hid nK4; replace K2 := Lib.hid ((K2.out).touch htK4 OK2K4.out); replace HB := Lib.hid (btouch HB.out htK4 LK4.out); clear nK4 htK4; try simp only [Act.put, List.setIfInBounds_toArray, List.set_cons_zero, List.set_cons_succ]) | (refine big_alloc rfl 27 rfl (lbA zLb) (by kernel_rfl) ?_; intro gK4 wK4 hlK4 nK4 hbK4; have K4 := Lib.hid nK4; have LK4 := Lib.hid (Nat.le_trans (HB.out).size hlK4); have OK2K4 := Lib.hid ((K2.out).off hlK4); replace K2 := Lib.hid ((K2.out).keptB hbK4); replace HB := Lib.hid (bstep HB.out hbK4); clear hlK4 nK4 hbK4; try simp only [Act.put, List.setIfInBounds_toArray, List.set_cons_zero, List.set_cons_succ]))
    go_upto_region 5 with fail
    go_wp2_with (first | (refine big_fill rfl 27 _ _ rfl gK2 (lbA zLb) rfl rfl K2.out (by kernel_rfl) (by kernel_rfl) (by kernel_rfl) ?_; intro vK21 nK2 htK2; replace K2 := Lib.hid nK2; replace K4 := Lib.hid ((K4.out).touch htK2 (Ne.symm OK2K4.out)); replace HB := Lib.hid (btouch HB.out htK2 LK2.out); clear nK2 htK2; try simp only [Act.put, List.setIfInBounds_toArray, List.set_cons_zero, List.set_cons_succ]) | (refine big_build rfl 27 _ rfl (lbA zLb) (by kernel_rfl) ?_; try simp only [Act.put, List.setIfInBounds_toArray, List.set_cons_zero, List.set_cons_succ]))
    refine bodyPost_ret (v := .tuple #[.agg (lbA zLb), .bool false]) (results_two rfl _ _ gK2 _ _ _ _ rfl rfl K2.out Tryd.underlying27 rfl (by kernel_rfl)) rfl ?_
    exact ⟨rfl, HB.out⟩

end Go.Proofs.YtfdadebddfhpdaaDoor
