/- The walk over the reference's Next. -/
import Derived.Test.YtpbfnmokhmioaaaDoorSeqsRef1
import Derived.Test.YtpbfnmokhmioaaaDoorHeadNumRef
import Derived.Deep.DeepCutAuto
import Derived.Deep.LoopGhost
import Derived.WalkMore
namespace Go.Proofs.YtpbfnmokhmioaaaDoor
set_option maxRecDepth 100000
open Go.RowKit
set_option linter.unusedVariables false
set_option linter.unusedSimpArgs false

set_option maxHeartbeats 4000000 in
theorem rnext11_0 (r : Rb) (vs vl vh : Sl) (w : World) (h0 : 0 ≤ r.sent 0) (h1 : r.sent 0 ≤ 100000) :
    Calls Tryd.prog 19 #[.agg (rbA r.sent vs vl vh), .int .i64 0] w fun e w' => e = .returned (.tuple #[.agg (rbA (rnextR r 0).sent vs vl vh), .int .i64 (rnextN r 0)]) ∧ Below w.heap.size w w' := by
  have HB := Lib.hid (Below.refl w.heap.size w)
  have HX : Hid (rnextN r 0 = r.sent 0 % 65536) := rfl
  have HY : Hid (rnextR r 0 = ⟨updN r.sent 0 (r.sent 0 + 1), r.S, r.L, r.H⟩) := rfl
  have d0 : (longN 0 == 0) = false := rfl
  have s0 := h0
  have s1 := h1
  clear h0 h1
  go_enter Tryd.func19, Tryd.ntmps19
  go_upto_region 1 with (first | (refine big_alloc rfl 31 rfl (rbA (fun _ => 0) nilS nilS nilS) (by kernel_rfl) ?_; intro gK4 wK4 hlK4 nK4 hbK4; have K4 := Lib.hid nK4; have LK4 := Lib.hid (Nat.le_trans (HB.out).size hlK4); have OK2K4 := Lib.hid ((K2.out).off hlK4); replace K2 := Lib.hid ((K2.out).keptB hbK4); replace HB := Lib.hid (bstep HB.out hbK4); clear hlK4 nK4 hbK4; try simp only [Act.put, List.setIfInBounds_toArray, List.set_cons_zero, List.set_cons_succ]) | (refine big_box rfl 31 _ rfl (rbA r.sent vs vl vh) rfl (by kernel_rfl) ?_; intro gK2 wK2 hlK2 nK2 hbK2; have K2 := Lib.hid nK2; have LK2 := Lib.hid (Nat.le_trans (HB.out).size hlK2); replace HB := Lib.hid (bstep HB.out hbK2); clear hlK2 nK2 hbK2; try simp only [Act.put, List.setIfInBounds_toArray, List.set_cons_zero, List.set_cons_succ]))
  have x0 := (K2.out).reads (i := 0) (x := .int .i64 (r.sent 0)) rfl
  go_wp2_with fail
  refine (rlong_any 0 _).mono ?_
  rintro e w1 ⟨rfl, rfl⟩
  go_upto_region 5 with ((refine big_set rfl 3 _ _ rfl gK2 0 (.int .i64 (r.sent 0 + 1)) rfl rfl K2.out (by kernel_rfl) rfl rfl (of_decide_eq_true (by kernel_rfl)) (rbA (updN r.sent 0 (r.sent 0 + 1)) vs vl vh) (by kernel_rfl) ?_; intro vK23 nK2 htK2; replace K2 := Lib.hid nK2; replace K4 := Lib.hid ((K4.out).touch htK2 (Ne.symm OK2K4.out)); replace HB := Lib.hid (btouch HB.out htK2 LK2.out); clear nK2 htK2; try simp only [Act.put, List.setIfInBounds_toArray, List.set_cons_zero, List.set_cons_succ]))
  clear x0
  go_wp2_with (first | (refine big_fill rfl 31 _ _ rfl gK4 (rbA (updN r.sent 0 (r.sent 0 + 1)) vs vl vh) rfl rfl K4.out (by kernel_rfl) (by kernel_rfl) (by kernel_rfl) ?_; intro vK47 nK4 htK4; replace K4 := Lib.hid nK4; replace K2 := Lib.hid ((K2.out).touch htK4 OK2K4.out); replace HB := Lib.hid (btouch HB.out htK4 LK4.out); clear nK4 htK4; try simp only [Act.put, List.setIfInBounds_toArray, List.set_cons_zero, List.set_cons_succ]) | (refine big_whole rfl 31 _ rfl gK2 rfl K2.out Tryd.underlying31 rfl (by kernel_rfl) ?_; try simp only [Act.put, List.setIfInBounds_toArray, List.set_cons_zero, List.set_cons_succ]))
  refine bodyPost_ret (v := .tuple #[.agg (rbA (updN r.sent 0 (r.sent 0 + 1)) vs vl vh), .int .i64 (r.sent 0 % 65536)]) (results_two rfl _ _ gK4 _ _ _ _ rfl rfl K4.out Tryd.underlying31 rfl (by kernel_rfl)) rfl ?_
  rw [HX.out, HY.out]
  exact ⟨rfl, HB.out⟩
set_option maxHeartbeats 4000000 in
theorem rnext11_1 (r : Rb) (vs vl vh : Sl) (w : World) (h0 : 0 ≤ r.sent 1) (h1 : r.sent 1 ≤ 100000) :
    Calls Tryd.prog 19 #[.agg (rbA r.sent vs vl vh), .int .i64 1] w fun e w' => e = .returned (.tuple #[.agg (rbA (rnextR r 1).sent vs vl vh), .int .i64 (rnextN r 1)]) ∧ Below w.heap.size w w' := by
  have HB := Lib.hid (Below.refl w.heap.size w)
  have HX : Hid (rnextN r 1 = r.sent 1 % 65536) := rfl
  have HY : Hid (rnextR r 1 = ⟨updN r.sent 1 (r.sent 1 + 1), r.S, r.L, r.H⟩) := rfl
  have d0 : (longN 1 == 0) = false := rfl
  have s0 := h0
  have s1 := h1
  clear h0 h1
  go_enter Tryd.func19, Tryd.ntmps19
  go_upto_region 1 with (first | (refine big_alloc rfl 31 rfl (rbA (fun _ => 0) nilS nilS nilS) (by kernel_rfl) ?_; intro gK4 wK4 hlK4 nK4 hbK4; have K4 := Lib.hid nK4; have LK4 := Lib.hid (Nat.le_trans (HB.out).size hlK4); have OK2K4 := Lib.hid ((K2.out).off hlK4); replace K2 := Lib.hid ((K2.out).keptB hbK4); replace HB := Lib.hid (bstep HB.out hbK4); clear hlK4 nK4 hbK4; try simp only [Act.put, List.setIfInBounds_toArray, List.set_cons_zero, List.set_cons_succ]) | (refine big_box rfl 31 _ rfl (rbA r.sent vs vl vh) rfl (by kernel_rfl) ?_; intro gK2 wK2 hlK2 nK2 hbK2; have K2 := Lib.hid nK2; have LK2 := Lib.hid (Nat.le_trans (HB.out).size hlK2); replace HB := Lib.hid (bstep HB.out hbK2); clear hlK2 nK2 hbK2; try simp only [Act.put, List.setIfInBounds_toArray, List.set_cons_zero, List.set_cons_succ]))
  have x1 := (K2.out).reads (i := 1) (x := .int .i64 (r.sent 1)) rfl
  go_wp2_with fail
  refine (rlong_any 1 _).mono ?_
  rintro e w1 ⟨rfl, rfl⟩
  go_upto_region 5 with ((refine big_set rfl 3 _ _ rfl gK2 1 (.int .i64 (r.sent 1 + 1)) rfl rfl K2.out (by kernel_rfl) rfl rfl (of_decide_eq_true (by kernel_rfl)) (rbA (updN r.sent 1 (r.sent 1 + 1)) vs vl vh) (by kernel_rfl) ?_; intro vK23 nK2 htK2; replace K2 := Lib.hid nK2; replace K4 := Lib.hid ((K4.out).touch htK2 (Ne.symm OK2K4.out)); replace HB := Lib.hid (btouch HB.out htK2 LK2.out); clear nK2 htK2; try simp only [Act.put, List.setIfInBounds_toArray, List.set_cons_zero, List.set_cons_succ]))
  clear x1
  go_wp2_with (first | (refine big_fill rfl 31 _ _ rfl gK4 (rbA (updN r.sent 1 (r.sent 1 + 1)) vs vl vh) rfl rfl K4.out (by kernel_rfl) (by kernel_rfl) (by kernel_rfl) ?_; intro vK47 nK4 htK4; replace K4 := Lib.hid nK4; replace K2 := Lib.hid ((K2.out).touch htK4 OK2K4.out); replace HB := Lib.hid (btouch HB.out htK4 LK4.out); clear nK4 htK4; try simp only [Act.put, List.setIfInBounds_toArray, List.set_cons_zero, List.set_cons_succ]) | (refine big_whole rfl 31 _ rfl gK2 rfl K2.out Tryd.underlying31 rfl (by kernel_rfl) ?_; try simp only [Act.put, List.setIfInBounds_toArray, List.set_cons_zero, List.set_cons_succ]))
  refine bodyPost_ret (v := .tuple #[.agg (rbA (updN r.sent 1 (r.sent 1 + 1)) vs vl vh), .int .i64 (r.sent 1 % 65536)]) (results_two rfl _ _ gK4 _ _ _ _ rfl rfl K4.out Tryd.underlying31 rfl (by kernel_rfl)) rfl ?_
  rw [HX.out, HY.out]
  exact ⟨rfl, HB.out⟩
set_option maxHeartbeats 4000000 in
theorem rnext11_8 (r : Rb) (vs vl vh : Sl) (w : World) (h0 : 0 ≤ r.sent 8) (h1 : r.sent 8 ≤ 100000) :
    Calls Tryd.prog 19 #[.agg (rbA r.sent vs vl vh), .int .i64 8] w fun e w' => e = .returned (.tuple #[.agg (rbA (rnextR r 8).sent vs vl vh), .int .i64 (rnextN r 8)]) ∧ Below w.heap.size w w' := by
  have HB := Lib.hid (Below.refl w.heap.size w)
  have HX : Hid (rnextN r 8 = r.sent 8 % 65536) := rfl
  have HY : Hid (rnextR r 8 = ⟨updN r.sent 8 (r.sent 8 + 1), r.S, r.L, r.H⟩) := rfl
  have d0 : (longN 8 == 0) = false := rfl
  have s0 := h0
  have s1 := h1
  clear h0 h1
  go_enter Tryd.func19, Tryd.ntmps19
  go_upto_region 1 with (first | (refine big_alloc rfl 31 rfl (rbA (fun _ => 0) nilS nilS nilS) (by kernel_rfl) ?_; intro gK4 wK4 hlK4 nK4 hbK4; have K4 := Lib.hid nK4; have LK4 := Lib.hid (Nat.le_trans (HB.out).size hlK4); have OK2K4 := Lib.hid ((K2.out).off hlK4); replace K2 := Lib.hid ((K2.out).keptB hbK4); replace HB := Lib.hid (bstep HB.out hbK4); clear hlK4 nK4 hbK4; try simp only [Act.put, List.setIfInBounds_toArray, List.set_cons_zero, List.set_cons_succ]) | (refine big_box rfl 31 _ rfl (rbA r.sent vs vl vh) rfl (by kernel_rfl) ?_; intro gK2 wK2 hlK2 nK2 hbK2; have K2 := Lib.hid nK2; have LK2 := Lib.hid (Nat.le_trans (HB.out).size hlK2); replace HB := Lib.hid (bstep HB.out hbK2); clear hlK2 nK2 hbK2; try simp only [Act.put, List.setIfInBounds_toArray, List.set_cons_zero, List.set_cons_succ]))
  have x8 := (K2.out).reads (i := 8) (x := .int .i64 (r.sent 8)) rfl
  go_wp2_with fail
  refine (rlong_any 8 _).mono ?_
  rintro e w1 ⟨rfl, rfl⟩
  go_upto_region 5 with ((refine big_set rfl 3 _ _ rfl gK2 8 (.int .i64 (r.sent 8 + 1)) rfl rfl K2.out (by kernel_rfl) rfl rfl (of_decide_eq_true (by kernel_rfl)) (rbA (updN r.sent 8 (r.sent 8 + 1)) vs vl vh) (by kernel_rfl) ?_; intro vK23 nK2 htK2; replace K2 := Lib.hid nK2; replace K4 := Lib.hid ((K4.out).touch htK2 (Ne.symm OK2K4.out)); replace HB := Lib.hid (btouch HB.out htK2 LK2.out); clear nK2 htK2; try simp only [Act.put, List.setIfInBounds_toArray, List.set_cons_zero, List.set_cons_succ]))
  clear x8
  go_wp2_with (first | (refine big_fill rfl 31 _ _ rfl gK4 (rbA (updN r.sent 8 (r.sent 8 + 1)) vs vl vh) rfl rfl K4.out (by kernel_rfl) (by kernel_rfl) (by kernel_rfl) ?_; intro vK47 nK4 htK4; replace K4 := Lib.hid nK4; replace K2 := Lib.hid ((K2.out).touch htK4 OK2K4.out); replace HB := Lib.hid (btouch HB.out htK4 LK4.out); clear nK4 htK4; try simp only [Act.put, List.setIfInBounds_toArray, List.set_cons_zero, List.set_cons_succ]) | (refine big_whole rfl 31 _ rfl gK2 rfl K2.out Tryd.underlying31 rfl (by kernel_rfl) ?_; try simp only [Act.put, List.setIfInBounds_toArray, List.set_cons_zero, List.set_cons_succ]))
  refine bodyPost_ret (v := .tuple #[.agg (rbA (updN r.sent 8 (r.sent 8 + 1)) vs vl vh), .int .i64 (r.sent 8 % 65536)]) (results_two rfl _ _ gK4 _ _ _ _ rfl rfl K4.out Tryd.underlying31 rfl (by kernel_rfl)) rfl ?_
  rw [HX.out, HY.out]
  exact ⟨rfl, HB.out⟩
set_option maxHeartbeats 4000000 in
theorem rnext11_9 (r : Rb) (vs vl vh : Sl) (w : World) (h0 : 0 ≤ r.sent 9) (h1 : r.sent 9 ≤ 100000) :
    Calls Tryd.prog 19 #[.agg (rbA r.sent vs vl vh), .int .i64 9] w fun e w' => e = .returned (.tuple #[.agg (rbA (rnextR r 9).sent vs vl vh), .int .i64 (rnextN r 9)]) ∧ Below w.heap.size w w' := by
  have HB := Lib.hid (Below.refl w.heap.size w)
  have HX : Hid (rnextN r 9 = r.sent 9 % 65536) := rfl
  have HY : Hid (rnextR r 9 = ⟨updN r.sent 9 (r.sent 9 + 1), r.S, r.L, r.H⟩) := rfl
  have d0 : (longN 9 == 0) = false := rfl
  have s0 := h0
  have s1 := h1
  clear h0 h1
  go_enter Tryd.func19, Tryd.ntmps19
  go_upto_region 1 with (first | (refine big_alloc rfl 31 rfl (rbA (fun _ => 0) nilS nilS nilS) (by kernel_rfl) ?_; intro gK4 wK4 hlK4 nK4 hbK4; have K4 := Lib.hid nK4; have LK4 := Lib.hid (Nat.le_trans (HB.out).size hlK4); have OK2K4 := Lib.hid ((K2.out).off hlK4); replace K2 := Lib.hid ((K2.out).keptB hbK4); replace HB := Lib.hid (bstep HB.out hbK4); clear hlK4 nK4 hbK4; try simp only [Act.put, List.setIfInBounds_toArray, List.set_cons_zero, List.set_cons_succ]) | (refine big_box rfl 31 _ rfl (rbA r.sent vs vl vh) rfl (by kernel_rfl) ?_; intro gK2 wK2 hlK2 nK2 hbK2; have K2 := Lib.hid nK2; have LK2 := Lib.hid (Nat.le_trans (HB.out).size hlK2); replace HB := Lib.hid (bstep HB.out hbK2); clear hlK2 nK2 hbK2; try simp only [Act.put, List.setIfInBounds_toArray, List.set_cons_zero, List.set_cons_succ]))
  have x9 := (K2.out).reads (i := 9) (x := .int .i64 (r.sent 9)) rfl
  go_wp2_with fail
  refine (rlong_any 9 _).mono ?_
  rintro e w1 ⟨rfl, rfl⟩
  go_upto_region 5 with ((refine big_set rfl 3 _ _ rfl gK2 9 (.int .i64 (r.sent 9 + 1)) rfl rfl K2.out (by kernel_rfl) rfl rfl (of_decide_eq_true (by kernel_rfl)) (rbA (updN r.sent 9 (r.sent 9 + 1)) vs vl vh) (by kernel_rfl) ?_; intro vK23 nK2 htK2; replace K2 := Lib.hid nK2; replace K4 := Lib.hid ((K4.out).touch htK2 (Ne.symm OK2K4.out)); replace HB := Lib.hid (btouch HB.out htK2 LK2.out); clear nK2 htK2; try simp only [Act.put, List.setIfInBounds_toArray, List.set_cons_zero, List.set_cons_succ]))
  clear x9
  go_wp2_with (first | (refine big_fill rfl 31 _ _ rfl gK4 (rbA (updN r.sent 9 (r.sent 9 + 1)) vs vl vh) rfl rfl K4.out (by kernel_rfl) (by kernel_rfl) (by kernel_rfl) ?_; intro vK47 nK4 htK4; replace K4 := Lib.hid nK4; replace K2 := Lib.hid ((K2.out).touch htK4 OK2K4.out); replace HB := Lib.hid (btouch HB.out htK4 LK4.out); clear nK4 htK4; try simp only [Act.put, List.setIfInBounds_toArray, List.set_cons_zero, List.set_cons_succ]) | (refine big_whole rfl 31 _ rfl gK2 rfl K2.out Tryd.underlying31 rfl (by kernel_rfl) ?_; try simp only [Act.put, List.setIfInBounds_toArray, List.set_cons_zero, List.set_cons_succ]))
  refine bodyPost_ret (v := .tuple #[.agg (rbA (updN r.sent 9 (r.sent 9 + 1)) vs vl vh), .int .i64 (r.sent 9 % 65536)]) (results_two rfl _ _ gK4 _ _ _ _ rfl rfl K4.out Tryd.underlying31 rfl (by kernel_rfl)) rfl ?_
  rw [HX.out, HY.out]
  exact ⟨rfl, HB.out⟩
set_option maxHeartbeats 4000000 in
theorem rnext11_11 (r : Rb) (vs vl vh : Sl) (w : World) (h0 : 0 ≤ r.sent 11) (h1 : r.sent 11 ≤ 100000) :
    Calls Tryd.prog 19 #[.agg (rbA r.sent vs vl vh), .int .i64 11] w fun e w' => e = .returned (.tuple #[.agg (rbA (rnextR r 11).sent vs vl vh), .int .i64 (rnextN r 11)]) ∧ Below w.heap.size w w' := by
  have HB := Lib.hid (Below.refl w.heap.size w)
  have HX : Hid (rnextN r 11 = r.sent 11 % 65536) := rfl
  have HY : Hid (rnextR r 11 = ⟨updN r.sent 11 (r.sent 11 + 1), r.S, r.L, r.H⟩) := rfl
  have d0 : (longN 11 == 0) = false := rfl
  have s0 := h0
  have s1 := h1
  clear h0 h1
  go_enter Tryd.func19, Tryd.ntmps19
  go_upto_region 1 with (first | (refine big_alloc rfl 31 rfl (rbA (fun _ => 0) nilS nilS nilS) (by kernel_rfl) ?_; intro gK4 wK4 hlK4 nK4 hbK4; have K4 := Lib.hid nK4; have LK4 := Lib.hid (Nat.le_trans (HB.out).size hlK4); have OK2K4 := Lib.hid ((K2.out).off hlK4); replace K2 := Lib.hid ((K2.out).keptB hbK4); replace HB := Lib.hid (bstep HB.out hbK4); clear hlK4 nK4 hbK4; try simp only [Act.put, List.setIfInBounds_toArray, List.set_cons_zero, List.set_cons_succ]) | (refine big_box rfl 31 _ rfl (rbA r.sent vs vl vh) rfl (by kernel_rfl) ?_; intro gK2 wK2 hlK2 nK2 hbK2; have K2 := Lib.hid nK2; have LK2 := Lib.hid (Nat.le_trans (HB.out).size hlK2); replace HB := Lib.hid (bstep HB.out hbK2); clear hlK2 nK2 hbK2; try simp only [Act.put, List.setIfInBounds_toArray, List.set_cons_zero, List.set_cons_succ]))
  have x11 := (K2.out).reads (i := 11) (x := .int .i64 (r.sent 11)) rfl
  go_wp2_with fail
  refine (rlong_any 11 _).mono ?_
  rintro e w1 ⟨rfl, rfl⟩
  go_upto_region 5 with ((refine big_set rfl 3 _ _ rfl gK2 11 (.int .i64 (r.sent 11 + 1)) rfl rfl K2.out (by kernel_rfl) rfl rfl (of_decide_eq_true (by kernel_rfl)) (rbA (updN r.sent 11 (r.sent 11 + 1)) vs vl vh) (by kernel_rfl) ?_; intro vK23 nK2 htK2; replace K2 := Lib.hid nK2; replace K4 := Lib.hid ((K4.out).touch htK2 (Ne.symm OK2K4.out)); replace HB := Lib.hid (btouch HB.out htK2 LK2.out); clear nK2 htK2; try simp only [Act.put, List.setIfInBounds_toArray, List.set_cons_zero, List.set_cons_succ]))
  clear x11
  go_wp2_with (first | (refine big_fill rfl 31 _ _ rfl gK4 (rbA (updN r.sent 11 (r.sent 11 + 1)) vs vl vh) rfl rfl K4.out (by kernel_rfl) (by kernel_rfl) (by kernel_rfl) ?_; intro vK47 nK4 htK4; replace K4 := Lib.hid nK4; replace K2 := Lib.hid ((K2.out).touch htK4 OK2K4.out); replace HB := Lib.hid (btouch HB.out htK4 LK4.out); clear nK4 htK4; try simp only [Act.put, List.setIfInBounds_toArray, List.set_cons_zero, List.set_cons_succ]) | (refine big_whole rfl 31 _ rfl gK2 rfl K2.out Tryd.underlying31 rfl (by kernel_rfl) ?_; try simp only [Act.put, List.setIfInBounds_toArray, List.set_cons_zero, List.set_cons_succ]))
  refine bodyPost_ret (v := .tuple #[.agg (rbA (updN r.sent 11 (r.sent 11 + 1)) vs vl vh), .int .i64 (r.sent 11 % 65536)]) (results_two rfl _ _ gK4 _ _ _ _ rfl rfl K4.out Tryd.underlying31 rfl (by kernel_rfl)) rfl ?_
  rw [HX.out, HY.out]
  exact ⟨rfl, HB.out⟩
set_option maxHeartbeats 4000000 in
theorem rnext11_any (r : Rb) (vs vl vh : Sl) (k : Int) (w : World) (h : longN k ≠ 0 → 0 ≤ r.sent k ∧ r.sent k ≤ 100000) :
    Calls Tryd.prog 19 #[.agg (rbA r.sent vs vl vh), .int .i64 k] w fun e w' => e = .returned (.tuple #[.agg (rbA (rnextR r k).sent vs vl vh), .int .i64 (rnextN r k)]) ∧ Below w.heap.size w w' := by
  by_cases hk : longN k = 0
  · have HB := Lib.hid (Below.refl w.heap.size w)
    have HX : Hid (rnextN r k = 0) := if_pos hk
    have HY : Hid (rnextR r k = r) := if_pos hk
    have d0 : (longN k == 0) = true := by simp [hk]
    clear hk
    go_enter Tryd.func19, Tryd.ntmps19
    go_upto_region 1 with (first | (refine big_alloc rfl 31 rfl (rbA (fun _ => 0) nilS nilS nilS) (by kernel_rfl) ?_; intro gK4 wK4 hlK4 nK4 hbK4; have K4 := Lib.hid nK4; have LK4 := Lib.hid (Nat.le_trans (HB.out).size hlK4); have OK2K4 := Lib.hid ((K2.out).off hlK4); replace K2 := Lib.hid ((K2.out).keptB hbK4); replace HB := Lib.hid (bstep HB.out hbK4); clear hlK4 nK4 hbK4; try simp only [Act.put, List.setIfInBounds_toArray, List.set_cons_zero, List.set_cons_succ]) | (refine big_box rfl 31 _ rfl (rbA r.sent vs vl vh) rfl (by kernel_rfl) ?_; intro gK2 wK2 hlK2 nK2 hbK2; have K2 := Lib.hid nK2; have LK2 := Lib.hid (Nat.le_trans (HB.out).size hlK2); replace HB := Lib.hid (bstep HB.out hbK2); clear hlK2 nK2 hbK2; try simp only [Act.put, List.setIfInBounds_toArray, List.set_cons_zero, List.set_cons_succ]))
    go_wp2_with fail
    refine (rlong_any k _).mono ?_
    rintro e w1 ⟨rfl, rfl⟩
    go_wp2_with (first | (refine big_fill rfl 31 _ _ rfl gK4 (rbA r.sent vs vl vh) rfl rfl K4.out (by kernel_rfl) (by kernel_rfl) (by kernel_rfl) ?_; intro vK47 nK4 htK4; replace K4 := Lib.hid nK4; replace K2 := Lib.hid ((K2.out).touch htK4 OK2K4.out); replace HB := Lib.hid (btouch HB.out htK4 LK4.out); clear nK4 htK4; try simp only [Act.put, List.setIfInBounds_toArray, List.set_cons_zero, List.set_cons_succ]) | (refine big_whole rfl 31 _ rfl gK2 rfl K2.out Tryd.underlying31 rfl (by kernel_rfl) ?_; try simp only [Act.put, List.setIfInBounds_toArray, List.set_cons_zero, List.set_cons_succ]))
    refine bodyPost_ret (v := .tuple #[.agg (rbA r.sent vs vl vh), .int .i64 (0)]) (results_two rfl _ _ gK4 _ _ _ _ rfl rfl K4.out Tryd.underlying31 rfl (by kernel_rfl)) rfl ?_
    rw [HX.out, HY.out]
    exact ⟨rfl, HB.out⟩
  · obtain ⟨h0, h1⟩ := h hk
    rcases kinds11 hk with rfl | rfl | rfl | rfl | rfl
    · exact rnext11_0 r vs vl vh w h0 h1
    · exact rnext11_1 r vs vl vh w h0 h1
    · exact rnext11_8 r vs vl vh w h0 h1
    · exact rnext11_9 r vs vl vh w h0 h1
    · exact rnext11_11 r vs vl vh w h0 h1

end Go.Proofs.YtpbfnmokhmioaaaDoor
