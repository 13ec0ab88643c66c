/- The walk over DelayMoves. -/
import Derived.Test.YtdjomckfifcfdaaDelaySmall
import Derived.Test.YtdjomckfifcfdaaDelayAlive
import Derived.Test.YtdjomckfifcfdaaDelayPBoth
import Derived.Deep.DeepCutAuto
import Derived.Deep.LoopGhost
namespace Go.Proofs.Ytdjomckfifcfdaa
set_option maxRecDepth 100000
open Go.RowKit
set_option linter.unusedVariables false
set_option linter.unusedSimpArgs false

set_option maxHeartbeats 4000000 in
theorem moves13 (p : Pa) (x0 x1 x2 x3 y : Int) (w : World) :
    Calls Try.prog 8 #[.agg (paA p), .agg #[.int .i64 x0, .int .i64 x1, .int .i64 x2, .int .i64 x3], .int .i64 y] w fun e w' => e = .returned (.bool true) ∧ Below w.heap.size w w' := by
  have HB := Lib.hid (Below.refl w.heap.size w)
  cases hsm : smL [x0, x1, x2, x3, y]
  · have HSM := Lib.hid hsm
    clear hsm
    go_enter Try.func8, Try.ntmps8
    go_upto_region 1 with (first | (refine big_box rfl 24 _ rfl (#[.int .i64 x0, .int .i64 x1, .int .i64 x2, .int .i64 x3]) rfl (by kernel_rfl) ?_; intro gK4 wK4 hlK4 nK4 hbK4; have K4 := Lib.hid nK4; have LK4 := Lib.hid (Nat.le_trans (HB.out).size hlK4); have OK3K4 := Lib.hid ((K3.out).off hlK4); replace K3 := Lib.hid ((K3.out).keptB hbK4); replace HB := Lib.hid (bstep HB.out hbK4); clear hlK4 nK4 hbK4; try simp only [Act.put, List.setIfInBounds_toArray, List.set_cons_zero, List.set_cons_succ]) | (refine big_box rfl 23 _ rfl (paA p) rfl (by kernel_rfl) ?_; intro gK3 wK3 hlK3 nK3 hbK3; have K3 := Lib.hid nK3; have LK3 := Lib.hid (Nat.le_trans (HB.out).size hlK3); replace HB := Lib.hid (bstep HB.out hbK3); clear hlK3 nK3 hbK3; try simp only [Act.put, List.setIfInBounds_toArray, List.set_cons_zero, List.set_cons_succ]))
    have v0 := (K4.out).reads (i := 0) (x := .int .i64 x0) rfl
    have v1 := (K4.out).reads (i := 1) (x := .int .i64 x1) rfl
    have v2 := (K4.out).reads (i := 2) (x := .int .i64 x2) rfl
    have v3 := (K4.out).reads (i := 3) (x := .int .i64 x3) rfl
    go_wp2_with ((refine big_slice rfl 59 3 5 _ rfl (#[.int .i64 x0, .int .i64 x1, .int .i64 x2, .int .i64 x3, .int .i64 y]) Try.underlying59 rfl rfl rfl (of_decide_eq_true (by kernel_rfl)) (of_decide_eq_true (by kernel_rfl)) (by kernel_rfl) ?_; intro gK9 wK9 hlK9 nK9 hbK9; have K9 := Lib.hid nK9; have LK9 := Lib.hid (Nat.le_trans (HB.out).size hlK9); have OK3K9 := Lib.hid ((K3.out).off hlK9); have OK4K9 := Lib.hid ((K4.out).off hlK9); replace K3 := Lib.hid ((K3.out).keptB hbK9); replace K4 := Lib.hid ((K4.out).keptB hbK9); replace HB := Lib.hid (bstep HB.out hbK9); clear hlK9 nK9 hbK9; try simp only [Act.put, List.setIfInBounds_toArray, List.set_cons_zero, List.set_cons_succ]))
    clear v0 v1 v2 v3
    refine (small13_any [x0, x1, x2, x3, y] gK9 5 _ (holds_nums K9.out rfl rfl) (by decide)).mono ?_
    rintro e c1 ⟨rfl, hc1⟩
    replace K3 := Lib.hid ((K3.out).keptB hc1)
    replace K4 := Lib.hid ((K4.out).keptB hc1)
    replace K9 := Lib.hid ((K9.out).keptB hc1)
    replace HB := Lib.hid (bstep HB.out hc1)
    clear hc1
    rw [HSM.out]
    go_wp2_with fail
    refine (alive13_any _).mono ?_
    rintro e c2 ⟨rfl, hc2⟩
    replace K3 := Lib.hid ((K3.out).keptB hc2)
    replace K4 := Lib.hid ((K4.out).keptB hc2)
    replace K9 := Lib.hid ((K9.out).keptB hc2)
    replace HB := Lib.hid (bstep HB.out hc2)
    clear hc2
    go_wp2
    try rw [Exit.noGoto_ret]
    go_ret
    exact ⟨rfl, HB.out⟩
  · cases hp : paB p
    · have HSM := Lib.hid hsm
      have HP := Lib.hid hp
      clear hsm hp
      go_enter Try.func8, Try.ntmps8
      go_upto_region 1 with (first | (refine big_box rfl 24 _ rfl (#[.int .i64 x0, .int .i64 x1, .int .i64 x2, .int .i64 x3]) rfl (by kernel_rfl) ?_; intro gK4 wK4 hlK4 nK4 hbK4; have K4 := Lib.hid nK4; have LK4 := Lib.hid (Nat.le_trans (HB.out).size hlK4); have OK3K4 := Lib.hid ((K3.out).off hlK4); replace K3 := Lib.hid ((K3.out).keptB hbK4); replace HB := Lib.hid (bstep HB.out hbK4); clear hlK4 nK4 hbK4; try simp only [Act.put, List.setIfInBounds_toArray, List.set_cons_zero, List.set_cons_succ]) | (refine big_box rfl 23 _ rfl (paA p) rfl (by kernel_rfl) ?_; intro gK3 wK3 hlK3 nK3 hbK3; have K3 := Lib.hid nK3; have LK3 := Lib.hid (Nat.le_trans (HB.out).size hlK3); replace HB := Lib.hid (bstep HB.out hbK3); clear hlK3 nK3 hbK3; try simp only [Act.put, List.setIfInBounds_toArray, List.set_cons_zero, List.set_cons_succ]))
      have v0 := (K4.out).reads (i := 0) (x := .int .i64 x0) rfl
      have v1 := (K4.out).reads (i := 1) (x := .int .i64 x1) rfl
      have v2 := (K4.out).reads (i := 2) (x := .int .i64 x2) rfl
      have v3 := (K4.out).reads (i := 3) (x := .int .i64 x3) rfl
      go_wp2_with ((refine big_slice rfl 59 3 5 _ rfl (#[.int .i64 x0, .int .i64 x1, .int .i64 x2, .int .i64 x3, .int .i64 y]) Try.underlying59 rfl rfl rfl (of_decide_eq_true (by kernel_rfl)) (of_decide_eq_true (by kernel_rfl)) (by kernel_rfl) ?_; intro gK9 wK9 hlK9 nK9 hbK9; have K9 := Lib.hid nK9; have LK9 := Lib.hid (Nat.le_trans (HB.out).size hlK9); have OK3K9 := Lib.hid ((K3.out).off hlK9); have OK4K9 := Lib.hid ((K4.out).off hlK9); replace K3 := Lib.hid ((K3.out).keptB hbK9); replace K4 := Lib.hid ((K4.out).keptB hbK9); replace HB := Lib.hid (bstep HB.out hbK9); clear hlK9 nK9 hbK9; try simp only [Act.put, List.setIfInBounds_toArray, List.set_cons_zero, List.set_cons_succ]))
      clear v0 v1 v2 v3
      refine (small13_any [x0, x1, x2, x3, y] gK9 5 _ (holds_nums K9.out rfl rfl) (by decide)).mono ?_
      rintro e c1 ⟨rfl, hc1⟩
      replace K3 := Lib.hid ((K3.out).keptB hc1)
      replace K4 := Lib.hid ((K4.out).keptB hc1)
      replace K9 := Lib.hid ((K9.out).keptB hc1)
      replace HB := Lib.hid (bstep HB.out hc1)
      clear hc1
      rw [HSM.out]
      go_wp2_with ((refine big_whole rfl 23 _ rfl gK3 rfl K3.out Try.underlying23 rfl (by kernel_rfl) ?_; try simp only [Act.put, List.setIfInBounds_toArray, List.set_cons_zero, List.set_cons_succ]))
      refine (rright13_any p _).mono ?_
      rintro e c2 ⟨rfl, hc2⟩
      replace K3 := Lib.hid ((K3.out).keptB hc2)
      replace K4 := Lib.hid ((K4.out).keptB hc2)
      replace K9 := Lib.hid ((K9.out).keptB hc2)
      replace HB := Lib.hid (bstep HB.out hc2)
      clear hc2
      rw [HP.out]
      go_wp2_with fail
      refine (alive13_any _).mono ?_
      rintro e c3 ⟨rfl, hc3⟩
      replace K3 := Lib.hid ((K3.out).keptB hc3)
      replace K4 := Lib.hid ((K4.out).keptB hc3)
      replace K9 := Lib.hid ((K9.out).keptB hc3)
      replace HB := Lib.hid (bstep HB.out hc3)
      clear hc3
      go_wp2
      try rw [Exit.noGoto_ret]
      go_ret
      exact ⟨rfl, HB.out⟩
    · obtain ⟨n0, n1, n2, n3, n4⟩ := smL5.1 hsm
      have hB := both_moves hp n0 n1 n2 n3 n4
      have hM := mean_moves hp n0 n1 n2 n3 n4
      rw [smN_iff] at n0 n3 n4
      obtain ⟨z0, jz0⟩ : ∃ x, x0 + y = x := ⟨_, rfl⟩
      obtain ⟨z3, jz3⟩ : ∃ x, x3 + y = x := ⟨_, rfl⟩
      rw [jz0, jz3] at hB hM
      have hw0 : IntKind.i64.wrap (z0) = z0 := by rw [IntKind.wrap_i64] <;> omega
      have hw1 : IntKind.i64.wrap (z3) = z3 := by rw [IntKind.wrap_i64] <;> omega
      have hk0 : wrap64 (z0) = z0 := by unfold wrap64; omega
      have hk1 : wrap64 (z3) = z3 := by unfold wrap64; omega
      obtain ⟨a, Ha⟩ : ∃ z_, Hid (bothS p x0 x1 x2 x3 0 0 = z_) := ⟨_, Lib.hid rfl⟩
      obtain ⟨m, Hm⟩ : ∃ z_, Hid (meanS p x0 x1 x2 x3 0 0 = z_) := ⟨_, Lib.hid rfl⟩
      obtain ⟨s, Hs⟩ : ∃ z_, Hid (shiftS a y = z_) := ⟨_, Lib.hid rfl⟩
      rw [Ha.out, Hs.out] at hB
      rw [Hm.out] at hM
      have HBO := Lib.hid hB
      have HME := Lib.hid hM
      have HSM := Lib.hid hsm
      have HP := Lib.hid hp
      clear hB hM hsm hp n0 n1 n2 n3 n4
      go_enter Try.func8, Try.ntmps8
      go_upto_region 1 with (first | (refine big_box rfl 24 _ rfl (#[.int .i64 x0, .int .i64 x1, .int .i64 x2, .int .i64 x3]) rfl (by kernel_rfl) ?_; intro gK4 wK4 hlK4 nK4 hbK4; have K4 := Lib.hid nK4; have LK4 := Lib.hid (Nat.le_trans (HB.out).size hlK4); have OK3K4 := Lib.hid ((K3.out).off hlK4); replace K3 := Lib.hid ((K3.out).keptB hbK4); replace HB := Lib.hid (bstep HB.out hbK4); clear hlK4 nK4 hbK4; try simp only [Act.put, List.setIfInBounds_toArray, List.set_cons_zero, List.set_cons_succ]) | (refine big_box rfl 23 _ rfl (paA p) rfl (by kernel_rfl) ?_; intro gK3 wK3 hlK3 nK3 hbK3; have K3 := Lib.hid nK3; have LK3 := Lib.hid (Nat.le_trans (HB.out).size hlK3); replace HB := Lib.hid (bstep HB.out hbK3); clear hlK3 nK3 hbK3; try simp only [Act.put, List.setIfInBounds_toArray, List.set_cons_zero, List.set_cons_succ]))
      have v0 := (K4.out).reads (i := 0) (x := .int .i64 x0) rfl
      have v1 := (K4.out).reads (i := 1) (x := .int .i64 x1) rfl
      have v2 := (K4.out).reads (i := 2) (x := .int .i64 x2) rfl
      have v3 := (K4.out).reads (i := 3) (x := .int .i64 x3) rfl
      go_wp2_with ((refine big_slice rfl 59 3 5 _ rfl (#[.int .i64 x0, .int .i64 x1, .int .i64 x2, .int .i64 x3, .int .i64 y]) Try.underlying59 rfl rfl rfl (of_decide_eq_true (by kernel_rfl)) (of_decide_eq_true (by kernel_rfl)) (by kernel_rfl) ?_; intro gK9 wK9 hlK9 nK9 hbK9; have K9 := Lib.hid nK9; have LK9 := Lib.hid (Nat.le_trans (HB.out).size hlK9); have OK3K9 := Lib.hid ((K3.out).off hlK9); have OK4K9 := Lib.hid ((K4.out).off hlK9); replace K3 := Lib.hid ((K3.out).keptB hbK9); replace K4 := Lib.hid ((K4.out).keptB hbK9); replace HB := Lib.hid (bstep HB.out hbK9); clear hlK9 nK9 hbK9; try simp only [Act.put, List.setIfInBounds_toArray, List.set_cons_zero, List.set_cons_succ]))
      clear v0 v1 v2 v3
      refine (small13_any [x0, x1, x2, x3, y] gK9 5 _ (holds_nums K9.out rfl rfl) (by decide)).mono ?_
      rintro e c1 ⟨rfl, hc1⟩
      replace K3 := Lib.hid ((K3.out).keptB hc1)
      replace K4 := Lib.hid ((K4.out).keptB hc1)
      replace K9 := Lib.hid ((K9.out).keptB hc1)
      replace HB := Lib.hid (bstep HB.out hc1)
      clear hc1
      rw [HSM.out]
      go_wp2_with ((refine big_whole rfl 23 _ rfl gK3 rfl K3.out Try.underlying23 rfl (by kernel_rfl) ?_; try simp only [Act.put, List.setIfInBounds_toArray, List.set_cons_zero, List.set_cons_succ]))
      refine (rright13_any p _).mono ?_
      rintro e c2 ⟨rfl, hc2⟩
      replace K3 := Lib.hid ((K3.out).keptB hc2)
      replace K4 := Lib.hid ((K4.out).keptB hc2)
      replace K9 := Lib.hid ((K9.out).keptB hc2)
      replace HB := Lib.hid (bstep HB.out hc2)
      clear hc2
      rw [HP.out]
      go_upto_region 4 with (first | (refine big_fill rfl 26 _ _ rfl gK7 (paA p) rfl rfl K7.out (by kernel_rfl) (by kernel_rfl) (by kernel_rfl) ?_; intro vK71 nK7 htK7; replace K7 := Lib.hid nK7; replace K3 := Lib.hid ((K3.out).touch htK7 OK3K7.out); replace K4 := Lib.hid ((K4.out).touch htK7 OK4K7.out); replace K9 := Lib.hid ((K9.out).touch htK7 OK9K7.out); replace HB := Lib.hid (btouch HB.out htK7 LK7.out); clear nK7 htK7; try simp only [Act.put, List.setIfInBounds_toArray, List.set_cons_zero, List.set_cons_succ]) | (refine big_alloc rfl 26 rfl (#[.int .i64 0, .int .i64 0, .int .i64 0]) (by kernel_rfl) ?_; intro gK7 wK7 hlK7 nK7 hbK7; have K7 := Lib.hid nK7; have LK7 := Lib.hid (Nat.le_trans (HB.out).size hlK7); have OK3K7 := Lib.hid ((K3.out).off hlK7); have OK4K7 := Lib.hid ((K4.out).off hlK7); have OK9K7 := Lib.hid ((K9.out).off hlK7); replace K3 := Lib.hid ((K3.out).keptB hbK7); replace K4 := Lib.hid ((K4.out).keptB hbK7); replace K9 := Lib.hid ((K9.out).keptB hbK7); replace HB := Lib.hid (bstep HB.out hbK7); clear hlK7 nK7 hbK7; try simp only [Act.put, List.setIfInBounds_toArray, List.set_cons_zero, List.set_cons_succ]) | (refine big_whole rfl 23 _ rfl gK3 rfl K3.out Try.underlying23 rfl (by kernel_rfl) ?_; try simp only [Act.put, List.setIfInBounds_toArray, List.set_cons_zero, List.set_cons_succ]))
      go_wp2_with (first | (refine big_whole rfl 26 _ rfl gK7 rfl K7.out Try.underlying26 rfl (by kernel_rfl) ?_; try simp only [Act.put, List.setIfInBounds_toArray, List.set_cons_zero, List.set_cons_succ]) | (refine big_whole rfl 24 _ rfl gK4 rfl K4.out Try.underlying24 rfl (by kernel_rfl) ?_; try simp only [Act.put, List.setIfInBounds_toArray, List.set_cons_zero, List.set_cons_succ]) | (refine big_build rfl 25 _ rfl (#[.int .i64 0, .int .i64 0]) (by kernel_rfl) ?_; try simp only [Act.put, List.setIfInBounds_toArray, List.set_cons_zero, List.set_cons_succ]))
      refine (pboth13_any p x0 x1 x2 x3 0 0 _ (by decide) (by decide)).mono ?_
      rintro e c3 ⟨rfl, hc3⟩
      replace K3 := Lib.hid ((K3.out).keptB hc3)
      replace K4 := Lib.hid ((K4.out).keptB hc3)
      replace K9 := Lib.hid ((K9.out).keptB hc3)
      replace K7 := Lib.hid ((K7.out).keptB hc3)
      replace HB := Lib.hid (bstep HB.out hc3)
      clear hc3
      rw [Ha.out]
      go_upto_region 5 with (first | (refine big_fill rfl 29 _ _ rfl gK8 (#[.int .i64 a.lo, .int .i64 a.hi, .bool a.k]) rfl rfl K8.out (by kernel_rfl) (by kernel_rfl) (by kernel_rfl) ?_; intro vK82 nK8 htK8; replace K8 := Lib.hid nK8; replace K3 := Lib.hid ((K3.out).touch htK8 OK3K8.out); replace K4 := Lib.hid ((K4.out).touch htK8 OK4K8.out); replace K9 := Lib.hid ((K9.out).touch htK8 OK9K8.out); replace K7 := Lib.hid ((K7.out).touch htK8 OK7K8.out); replace HB := Lib.hid (btouch HB.out htK8 LK8.out); clear nK8 htK8; try simp only [Act.put, List.setIfInBounds_toArray, List.set_cons_zero, List.set_cons_succ]) | (refine big_alloc rfl 29 rfl (#[.int .i64 0, .int .i64 0, .bool false]) (by kernel_rfl) ?_; intro gK8 wK8 hlK8 nK8 hbK8; have K8 := Lib.hid nK8; have LK8 := Lib.hid (Nat.le_trans (HB.out).size hlK8); have OK3K8 := Lib.hid ((K3.out).off hlK8); have OK4K8 := Lib.hid ((K4.out).off hlK8); have OK9K8 := Lib.hid ((K9.out).off hlK8); have OK7K8 := Lib.hid ((K7.out).off hlK8); replace K3 := Lib.hid ((K3.out).keptB hbK8); replace K4 := Lib.hid ((K4.out).keptB hbK8); replace K9 := Lib.hid ((K9.out).keptB hbK8); replace K7 := Lib.hid ((K7.out).keptB hbK8); replace HB := Lib.hid (bstep HB.out hbK8); clear hlK8 nK8 hbK8; try simp only [Act.put, List.setIfInBounds_toArray, List.set_cons_zero, List.set_cons_succ]))
      have v0 := (K4.out).reads (i := 0) (x := .int .i64 x0) rfl
      have v1 := (K4.out).reads (i := 1) (x := .int .i64 x1) rfl
      have v2 := (K4.out).reads (i := 2) (x := .int .i64 x2) rfl
      have v3 := (K4.out).reads (i := 3) (x := .int .i64 x3) rfl
      go_upto_region 6 with (first | (refine big_fill rfl 24 _ _ rfl gKA (#[.int .i64 z0, .int .i64 x1, .int .i64 x2, .int .i64 z3]) rfl rfl KA.out (by kernel_rfl) (by kernel_rfl) (by kernel_rfl) ?_; intro vKA3 nKA htKA; replace KA := Lib.hid nKA; replace K3 := Lib.hid ((K3.out).touch htKA OK3KA.out); replace K4 := Lib.hid ((K4.out).touch htKA OK4KA.out); replace K9 := Lib.hid ((K9.out).touch htKA OK9KA.out); replace K7 := Lib.hid ((K7.out).touch htKA OK7KA.out); replace K8 := Lib.hid ((K8.out).touch htKA OK8KA.out); replace HB := Lib.hid (btouch HB.out htKA LKA.out); clear nKA htKA; try simp only [Act.put, List.setIfInBounds_toArray, List.set_cons_zero, List.set_cons_succ]) | (refine big_alloc rfl 24 rfl (#[.int .i64 0, .int .i64 0, .int .i64 0, .int .i64 0]) (by kernel_rfl) ?_; intro gKA wKA hlKA nKA hbKA; have KA := Lib.hid nKA; have LKA := Lib.hid (Nat.le_trans (HB.out).size hlKA); have OK3KA := Lib.hid ((K3.out).off hlKA); have OK4KA := Lib.hid ((K4.out).off hlKA); have OK9KA := Lib.hid ((K9.out).off hlKA); have OK7KA := Lib.hid ((K7.out).off hlKA); have OK8KA := Lib.hid ((K8.out).off hlKA); replace K3 := Lib.hid ((K3.out).keptB hbKA); replace K4 := Lib.hid ((K4.out).keptB hbKA); replace K9 := Lib.hid ((K9.out).keptB hbKA); replace K7 := Lib.hid ((K7.out).keptB hbKA); replace K8 := Lib.hid ((K8.out).keptB hbKA); replace HB := Lib.hid (bstep HB.out hbKA); clear hlKA nKA hbKA; try simp only [Act.put, List.setIfInBounds_toArray, List.set_cons_zero, List.set_cons_succ]) | (refine big_build rfl 24 _ rfl (#[.int .i64 z0, .int .i64 x1, .int .i64 x2, .int .i64 z3]) (by kernel_rfl) ?_; try simp only [Act.put, List.setIfInBounds_toArray, List.set_cons_zero, List.set_cons_succ]))
      try clear v0 v1 v2 v3
      refine wp_region_held_drew (S := fun v => Below w.heap.size w v ∧ Holds v gK3 23 (paA p) ∧ Holds v gK4 24 (#[.int .i64 x0, .int .i64 x1, .int .i64 x2, .int .i64 x3]) ∧ Holds v gK9 3 (#[.int .i64 x0, .int .i64 x1, .int .i64 x2, .int .i64 x3, .int .i64 y]) ∧ Holds v gK7 26 (paA p) ∧ Holds v gK8 29 (#[.int .i64 a.lo, .int .i64 a.hi, .bool a.k]) ∧ Holds v gKA 24 (#[.int .i64 z0, .int .i64 x1, .int .i64 x2, .int .i64 z3]) ∧ True) (by kernel_rfl) ?_ (fun hHeld => ?_)
      · exact ⟨bdrew HB.out, (K3.out).drew, (K4.out).drew, (K9.out).drew, (K7.out).drew, (K8.out).drew, (KA.out).drew, trivial⟩
      clear HB K3 K4 K9 K7 K8 KA
      refine wpAnyH_ready (rs := [0]) (by kernel_rfl) (by simp) ?_
      refine AllReadyH.cons (at_list rfl) (fun K hK => ?_) AllReadyH.nil
      go_simp
      refine (alive13_any _).mono ?_
      rintro e v4 ⟨rfl, hv4⟩
      go_wp2_with fail
      refine hK.out _ _ ?_ (fun hHeld2 => ?_)
      · exact ⟨bstep hHeld.1 hv4, (hHeld.2.1).keptB hv4, (hHeld.2.2.1).keptB hv4, (hHeld.2.2.2.1).keptB hv4, (hHeld.2.2.2.2.1).keptB hv4, (hHeld.2.2.2.2.2.1).keptB hv4, (hHeld.2.2.2.2.2.2.1).keptB hv4, trivial⟩
      clear hK K hHeld
      have hHeld := hHeld2
      clear hHeld2 hv4
      try simp only [Act.put, List.setIfInBounds_toArray, List.set_cons_zero, List.set_cons_succ]
      refine wpAnyH_take (i := 1) (v := .bool true) (at_list rfl) (by kernel_rfl) (by kernel_rfl) (by kernel_rfl) (fun _ _ _ h => h) (Or.inl ⟨by rfl, ?_⟩) hHeld ?_
      · intro v hSv
        clear hHeld
        go_simp
      try simp only [Act.put, List.setIfInBounds_toArray, List.set_cons_zero, List.set_cons_succ]
      refine wpAnyH_take (i := 2) (v := .agg (paA p)) (at_list rfl) (by kernel_rfl) (by kernel_rfl) (by kernel_rfl) (fun _ _ _ h => h) (yields_whole (by rfl) 26 _ rfl gK7 rfl (fun v hv => hv.2.2.2.2.1) Try.underlying26 rfl (by kernel_rfl)) hHeld ?_
      try simp only [Act.put, List.setIfInBounds_toArray, List.set_cons_zero, List.set_cons_succ]
      refine wpAnyH_take (i := 3) (v := .agg (#[.int .i64 z0, .int .i64 x1, .int .i64 x2, .int .i64 z3])) (at_list rfl) (by kernel_rfl) (by kernel_rfl) (by kernel_rfl) (fun _ _ _ h => h) (yields_whole (by rfl) 24 _ rfl gKA rfl (fun v hv => hv.2.2.2.2.2.2.1) Try.underlying24 rfl (by kernel_rfl)) hHeld ?_
      try simp only [Act.put, List.setIfInBounds_toArray, List.set_cons_zero, List.set_cons_succ]
      refine wpAnyH_take (i := 4) (v := .agg (#[.int .i64 0, .int .i64 0])) (at_list rfl) (by kernel_rfl) (by kernel_rfl) (by kernel_rfl) (fun _ _ _ h => h) (Or.inl ⟨by rfl, ?_⟩) hHeld ?_
      · intro v hSv
        clear hHeld
        go_simp
      try simp only [Act.put, List.setIfInBounds_toArray, List.set_cons_zero, List.set_cons_succ]
      refine wpAnyH_take (i := 6) (v := .agg (#[.int .i64 a.lo, .int .i64 a.hi, .bool a.k])) (at_list rfl) (by kernel_rfl) (by kernel_rfl) (by kernel_rfl) (fun _ _ _ h => h) (yields_whole (by rfl) 29 _ rfl gK8 rfl (fun v hv => hv.2.2.2.2.2.1) Try.underlying29 rfl (by kernel_rfl)) hHeld ?_
      try simp only [Act.put, List.setIfInBounds_toArray, List.set_cons_zero, List.set_cons_succ]
      refine wpAnyH_take (i := 7) (v := .int .i64 y) (at_list rfl) (by kernel_rfl) (by kernel_rfl) (by kernel_rfl) (fun _ _ _ h => h) (Or.inl ⟨by rfl, ?_⟩) hHeld ?_
      · intro v hSv
        clear hHeld
        go_simp
      try simp only [Act.put, List.setIfInBounds_toArray, List.set_cons_zero, List.set_cons_succ]
      refine wpAnyH_ready (rs := [5]) (by kernel_rfl) (by simp) ?_
      refine AllReadyH.cons (at_list rfl) (fun K hK => ?_) AllReadyH.nil
      go_simp
      refine (pboth13_any p z0 x1 x2 z3 0 0 _ (by decide) (by decide)).mono ?_
      rintro e v5 ⟨rfl, hv5⟩
      rw [HBO.out]
      go_wp2_with fail
      refine hK.out _ _ ?_ (fun hHeld2 => ?_)
      · exact ⟨bstep hHeld.1 hv5, (hHeld.2.1).keptB hv5, (hHeld.2.2.1).keptB hv5, (hHeld.2.2.2.1).keptB hv5, (hHeld.2.2.2.2.1).keptB hv5, (hHeld.2.2.2.2.2.1).keptB hv5, (hHeld.2.2.2.2.2.2.1).keptB hv5, trivial⟩
      clear hK K hHeld
      have hHeld := hHeld2
      clear hHeld2 hv5
      try simp only [Act.put, List.setIfInBounds_toArray, List.set_cons_zero, List.set_cons_succ]
      refine wpAnyH_ready (rs := [8]) (by kernel_rfl) (by simp) ?_
      refine AllReadyH.cons (at_list rfl) (fun K hK => ?_) AllReadyH.nil
      go_simp
      refine (shift3_any a y _).mono ?_
      rintro e v6 ⟨rfl, hv6⟩
      rw [Hs.out]
      go_wp2_with fail
      refine hK.out _ _ ?_ (fun hHeld2 => ?_)
      · exact ⟨bstep hHeld.1 hv6, (hHeld.2.1).keptB hv6, (hHeld.2.2.1).keptB hv6, (hHeld.2.2.2.1).keptB hv6, (hHeld.2.2.2.2.1).keptB hv6, (hHeld.2.2.2.2.2.1).keptB hv6, (hHeld.2.2.2.2.2.2.1).keptB hv6, trivial⟩
      clear hK K hHeld
      have hHeld := hHeld2
      clear hHeld2 hv6
      try simp only [Act.put, List.setIfInBounds_toArray, List.set_cons_zero, List.set_cons_succ]
      refine wpAnyH_take (i := 9) (v := .bool true) (at_list rfl) (by kernel_rfl) (by kernel_rfl) (by kernel_rfl) (fun _ _ _ h => h) (yields_cmp (by rfl) .eql 29 _ _ _ rfl (#[.int .i64 s.lo, .int .i64 s.hi, .bool s.k]) (#[.int .i64 s.lo, .int .i64 s.hi, .bool s.k]) rfl rfl (by kernel_rfl) true (fun v => (eql_span _ _ _ _ _ _ v).trans (by rw [eqS_refl]))) hHeld ?_
      try simp only [Act.put, List.setIfInBounds_toArray, List.set_cons_zero, List.set_cons_succ]
      refine wpAnyH_take (i := 10) (v := .bool true) (at_list rfl) (by kernel_rfl) (by kernel_rfl) (by kernel_rfl) (fun _ _ _ h => h) (Or.inl ⟨by rfl, ?_⟩) hHeld ?_
      · intro v hSv
        clear hHeld
        go_simp
      try simp only [Act.put, List.setIfInBounds_toArray, List.set_cons_zero, List.set_cons_succ]
      refine wpAnyH_take (i := 11) (v := .bool true) (at_list rfl) (by kernel_rfl) (by kernel_rfl) (by kernel_rfl) (fun _ _ _ h => h) (Or.inl ⟨by rfl, ?_⟩) hHeld ?_
      · intro v hSv
        clear hHeld
        go_simp
      try simp only [Act.put, List.setIfInBounds_toArray, List.set_cons_zero, List.set_cons_succ]
      refine wpAnyH_take (i := 12) (v := .agg (paA p)) (at_list rfl) (by kernel_rfl) (by kernel_rfl) (by kernel_rfl) (fun _ _ _ h => h) (yields_whole (by rfl) 26 _ rfl gK7 rfl (fun v hv => hv.2.2.2.2.1) Try.underlying26 rfl (by kernel_rfl)) hHeld ?_
      try simp only [Act.put, List.setIfInBounds_toArray, List.set_cons_zero, List.set_cons_succ]
      refine wpAnyH_take (i := 13) (v := .agg (#[.int .i64 z0, .int .i64 x1, .int .i64 x2, .int .i64 z3])) (at_list rfl) (by kernel_rfl) (by kernel_rfl) (by kernel_rfl) (fun _ _ _ h => h) (yields_whole (by rfl) 24 _ rfl gKA rfl (fun v hv => hv.2.2.2.2.2.2.1) Try.underlying24 rfl (by kernel_rfl)) hHeld ?_
      try simp only [Act.put, List.setIfInBounds_toArray, List.set_cons_zero, List.set_cons_succ]
      refine wpAnyH_take (i := 14) (v := .agg (#[.int .i64 0, .int .i64 0])) (at_list rfl) (by kernel_rfl) (by kernel_rfl) (by kernel_rfl) (fun _ _ _ h => h) (Or.inl ⟨by rfl, ?_⟩) hHeld ?_
      · intro v hSv
        clear hHeld
        go_simp
      try simp only [Act.put, List.setIfInBounds_toArray, List.set_cons_zero, List.set_cons_succ]
      refine wpAnyH_take (i := 16) (v := .agg (paA p)) (at_list rfl) (by kernel_rfl) (by kernel_rfl) (by kernel_rfl) (fun _ _ _ h => h) (yields_whole (by rfl) 26 _ rfl gK7 rfl (fun v hv => hv.2.2.2.2.1) Try.underlying26 rfl (by kernel_rfl)) hHeld ?_
      try simp only [Act.put, List.setIfInBounds_toArray, List.set_cons_zero, List.set_cons_succ]
      refine wpAnyH_take (i := 17) (v := .agg (#[.int .i64 x0, .int .i64 x1, .int .i64 x2, .int .i64 x3])) (at_list rfl) (by kernel_rfl) (by kernel_rfl) (by kernel_rfl) (fun _ _ _ h => h) (yields_whole (by rfl) 24 _ rfl gK4 rfl (fun v hv => hv.2.2.1) Try.underlying24 rfl (by kernel_rfl)) hHeld ?_
      try simp only [Act.put, List.setIfInBounds_toArray, List.set_cons_zero, List.set_cons_succ]
      refine wpAnyH_take (i := 18) (v := .agg (#[.int .i64 0, .int .i64 0])) (at_list rfl) (by kernel_rfl) (by kernel_rfl) (by kernel_rfl) (fun _ _ _ h => h) (Or.inl ⟨by rfl, ?_⟩) hHeld ?_
      · intro v hSv
        clear hHeld
        go_simp
      try simp only [Act.put, List.setIfInBounds_toArray, List.set_cons_zero, List.set_cons_succ]
      refine wpAnyH_ready (rs := [15]) (by kernel_rfl) (by simp) ?_
      refine AllReadyH.cons (at_list rfl) (fun K hK => ?_) AllReadyH.nil
      go_simp
      refine (pmean13_any p z0 x1 x2 z3 0 0 _ (by decide) (by decide)).mono ?_
      rintro e v7 ⟨rfl, hv7⟩
      rw [HME.out]
      go_wp2_with fail
      refine hK.out _ _ ?_ (fun hHeld2 => ?_)
      · exact ⟨bstep hHeld.1 hv7, (hHeld.2.1).keptB hv7, (hHeld.2.2.1).keptB hv7, (hHeld.2.2.2.1).keptB hv7, (hHeld.2.2.2.2.1).keptB hv7, (hHeld.2.2.2.2.2.1).keptB hv7, (hHeld.2.2.2.2.2.2.1).keptB hv7, trivial⟩
      clear hK K hHeld
      have hHeld := hHeld2
      clear hHeld2 hv7
      try simp only [Act.put, List.setIfInBounds_toArray, List.set_cons_zero, List.set_cons_succ]
      refine wpAnyH_ready (rs := [19]) (by kernel_rfl) (by simp) ?_
      refine AllReadyH.cons (at_list rfl) (fun K hK => ?_) AllReadyH.nil
      go_simp
      refine (pmean13_any p x0 x1 x2 x3 0 0 _ (by decide) (by decide)).mono ?_
      rintro e v8 ⟨rfl, hv8⟩
      rw [Hm.out]
      go_wp2_with fail
      refine hK.out _ _ ?_ (fun hHeld2 => ?_)
      · exact ⟨bstep hHeld.1 hv8, (hHeld.2.1).keptB hv8, (hHeld.2.2.1).keptB hv8, (hHeld.2.2.2.1).keptB hv8, (hHeld.2.2.2.2.1).keptB hv8, (hHeld.2.2.2.2.2.1).keptB hv8, (hHeld.2.2.2.2.2.2.1).keptB hv8, trivial⟩
      clear hK K hHeld
      have hHeld := hHeld2
      clear hHeld2 hv8
      try simp only [Act.put, List.setIfInBounds_toArray, List.set_cons_zero, List.set_cons_succ]
      refine wpAnyH_take (i := 20) (v := .bool true) (at_list rfl) (by kernel_rfl) (by kernel_rfl) (by kernel_rfl) (fun _ _ _ h => h) (yields_cmp (by rfl) .eql 29 _ _ _ rfl (#[.int .i64 m.lo, .int .i64 m.hi, .bool m.k]) (#[.int .i64 m.lo, .int .i64 m.hi, .bool m.k]) rfl rfl (by kernel_rfl) true (fun v => (eql_span _ _ _ _ _ _ v).trans (by rw [eqS_refl]))) hHeld ?_
      try simp only [Act.put, List.setIfInBounds_toArray, List.set_cons_zero, List.set_cons_succ]
      refine wpAnyH_take (i := 21) (v := .bool true) (at_list rfl) (by kernel_rfl) (by kernel_rfl) (by kernel_rfl) (fun _ _ _ h => h) (Or.inl ⟨by rfl, ?_⟩) hHeld ?_
      · intro v hSv
        clear hHeld
        go_simp
      try simp only [Act.put, List.setIfInBounds_toArray, List.set_cons_zero, List.set_cons_succ]
      refine wpAnyH_take (i := 22) (v := .bool true) (at_list rfl) (by kernel_rfl) (by kernel_rfl) (by kernel_rfl) (fun _ _ _ h => h) (Or.inl ⟨by rfl, ?_⟩) hHeld ?_
      · intro v hSv
        clear hHeld
        go_simp
      try simp only [Act.put, List.setIfInBounds_toArray, List.set_cons_zero, List.set_cons_succ]
      refine wpAnyH_done (by kernel_rfl) ?_ _
      have HB := Lib.hid hHeld.1
      have K3 := Lib.hid hHeld.2.1
      have K4 := Lib.hid hHeld.2.2.1
      have K9 := Lib.hid hHeld.2.2.2.1
      have K7 := Lib.hid hHeld.2.2.2.2.1
      have K8 := Lib.hid hHeld.2.2.2.2.2.1
      have KA := Lib.hid hHeld.2.2.2.2.2.2.1
      clear hHeld
      go_wp2
      try rw [Exit.noGoto_ret]
      go_ret
      exact ⟨rfl, HB.out⟩

end Go.Proofs.Ytdjomckfifcfdaa
