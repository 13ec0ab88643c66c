/- The walk over DelayExact. -/
import Derived.Test.YtdjomckfifcfdaaDelaySmall
import Derived.Test.YtdjomckfifcfdaaDelayAlive
import Derived.Deep.DeepCutAuto
import Derived.Deep.LoopGhost
namespace Go.Proofs.Ytdjomckfifcfdaa
set_option maxRecDepth 100000
open Go.RowKit
set_option linter.unusedVariables false
set_option linter.unusedSimpArgs false

set_option maxHeartbeats 4000000 in
theorem exact13 (k a o : Int) (w : World) :
    Calls Try.prog 9 #[.int .i64 k, .int .i64 a, .int .i64 o] w fun e w' => e = .returned (.bool true) ∧ Below w.heap.size w w' := by
  have HB := Lib.hid (Below.refl w.heap.size w)
  cases hsm : smL [a, o]
  · have HSM := Lib.hid hsm
    clear hsm
    go_enter Try.func9, Try.ntmps9
    go_upto_region 1 with fail
    go_wp2_with ((refine big_slice rfl 59 3 2 _ rfl (#[.int .i64 a, .int .i64 o]) Try.underlying59 rfl rfl rfl (of_decide_eq_true (by kernel_rfl)) (of_decide_eq_true (by kernel_rfl)) (by kernel_rfl) ?_; intro gK9 wK9 hlK9 nK9 hbK9; have K9 := Lib.hid nK9; have LK9 := Lib.hid (Nat.le_trans (HB.out).size hlK9); replace HB := Lib.hid (bstep HB.out hbK9); clear hlK9 nK9 hbK9; try simp only [Act.put, List.setIfInBounds_toArray, List.set_cons_zero, List.set_cons_succ]))
    refine (small13_any [a, o] gK9 2 _ (holds_nums K9.out rfl rfl) (by decide)).mono ?_
    rintro e c1 ⟨rfl, hc1⟩
    replace K9 := Lib.hid ((K9.out).keptB hc1)
    replace HB := Lib.hid (bstep HB.out hc1)
    clear hc1
    rw [HSM.out]
    go_wp2_with fail
    refine (alive13_any _).mono ?_
    rintro e c2 ⟨rfl, hc2⟩
    replace K9 := Lib.hid ((K9.out).keptB hc2)
    replace HB := Lib.hid (bstep HB.out hc2)
    clear hc2
    go_wp2
    try rw [Exit.noGoto_ret]
    go_ret
    exact ⟨rfl, HB.out⟩
  · by_cases q0 : k < 0
    · have HSM := Lib.hid hsm
      have d0 : decide (k < 0) = true := decide_eq_true q0
      clear hsm q0
      go_enter Try.func9, Try.ntmps9
      go_upto_region 1 with fail
      go_wp2_with ((refine big_slice rfl 59 3 2 _ rfl (#[.int .i64 a, .int .i64 o]) Try.underlying59 rfl rfl rfl (of_decide_eq_true (by kernel_rfl)) (of_decide_eq_true (by kernel_rfl)) (by kernel_rfl) ?_; intro gK9 wK9 hlK9 nK9 hbK9; have K9 := Lib.hid nK9; have LK9 := Lib.hid (Nat.le_trans (HB.out).size hlK9); replace HB := Lib.hid (bstep HB.out hbK9); clear hlK9 nK9 hbK9; try simp only [Act.put, List.setIfInBounds_toArray, List.set_cons_zero, List.set_cons_succ]))
      refine (small13_any [a, o] gK9 2 _ (holds_nums K9.out rfl rfl) (by decide)).mono ?_
      rintro e c1 ⟨rfl, hc1⟩
      replace K9 := Lib.hid ((K9.out).keptB hc1)
      replace HB := Lib.hid (bstep HB.out hc1)
      clear hc1
      rw [HSM.out]
      go_wp2_with fail
      refine (alive13_any _).mono ?_
      rintro e c2 ⟨rfl, hc2⟩
      replace K9 := Lib.hid ((K9.out).keptB hc2)
      replace HB := Lib.hid (bstep HB.out hc2)
      clear hc2
      go_wp2
      try rw [Exit.noGoto_ret]
      go_ret
      exact ⟨rfl, HB.out⟩
    · by_cases q1 : 1000000000 < k
      · have HSM := Lib.hid hsm
        have d0 : decide (k < 0) = false := decide_eq_false q0
        have d1 : decide (1000000000 < k) = true := decide_eq_true q1
        have d2 : decide (k > 1000000000) = true := d1
        clear hsm q0 q1
        go_enter Try.func9, Try.ntmps9
        go_upto_region 1 with fail
        go_wp2_with ((refine big_slice rfl 59 3 2 _ rfl (#[.int .i64 a, .int .i64 o]) Try.underlying59 rfl rfl rfl (of_decide_eq_true (by kernel_rfl)) (of_decide_eq_true (by kernel_rfl)) (by kernel_rfl) ?_; intro gK9 wK9 hlK9 nK9 hbK9; have K9 := Lib.hid nK9; have LK9 := Lib.hid (Nat.le_trans (HB.out).size hlK9); replace HB := Lib.hid (bstep HB.out hbK9); clear hlK9 nK9 hbK9; try simp only [Act.put, List.setIfInBounds_toArray, List.set_cons_zero, List.set_cons_succ]))
        refine (small13_any [a, o] gK9 2 _ (holds_nums K9.out rfl rfl) (by decide)).mono ?_
        rintro e c1 ⟨rfl, hc1⟩
        replace K9 := Lib.hid ((K9.out).keptB hc1)
        replace HB := Lib.hid (bstep HB.out hc1)
        clear hc1
        rw [HSM.out]
        go_wp2_with fail
        refine (alive13_any _).mono ?_
        rintro e c2 ⟨rfl, hc2⟩
        replace K9 := Lib.hid ((K9.out).keptB hc2)
        replace HB := Lib.hid (bstep HB.out hc2)
        clear hc2
        go_wp2
        try rw [Exit.noGoto_ret]
        go_ret
        exact ⟨rfl, HB.out⟩
      · have d0 : decide (k < 0) = false := decide_eq_false q0
        have d1 : decide (1000000000 < k) = false := decide_eq_false q1
        have d2 : decide (k > 1000000000) = false := d1
        obtain ⟨n0, n1⟩ := smL2.1 hsm
        have HES := Lib.hid (exact_sync (k := k) (by omega) n0 n1)
        have HER := Lib.hid (exact_req (k := k) (by omega) n0 n1)
        rw [smN_iff] at n0 n1
        have HOF : Hid (ofS o o = ⟨o, o, true⟩) := of_yes (by unfold tm; omega)
        obtain ⟨d, jd⟩ : ∃ x, a + k = x := ⟨_, rfl⟩
        rw [jd] at HES HER
        obtain ⟨b, jb⟩ : ∃ x, d - o = x := ⟨_, rfl⟩
        obtain ⟨c, jc⟩ : ∃ x, a - o = x := ⟨_, rfl⟩
        rw [jb] at HES
        rw [jc] at HER
        have hw0 : IntKind.i64.wrap (a + k) = d := by rw [IntKind.wrap_i64] <;> omega
        have hw1 : IntKind.i64.wrap (d - o) = b := by rw [IntKind.wrap_i64] <;> omega
        have hw2 : IntKind.i64.wrap (a - o) = c := by rw [IntKind.wrap_i64] <;> omega
        clear jd jb jc
        have HSM := Lib.hid hsm
        clear hsm q0 q1 n0 n1
        go_enter Try.func9, Try.ntmps9
        go_upto_region 1 with fail
        go_wp2_with ((refine big_slice rfl 59 3 2 _ rfl (#[.int .i64 a, .int .i64 o]) Try.underlying59 rfl rfl rfl (of_decide_eq_true (by kernel_rfl)) (of_decide_eq_true (by kernel_rfl)) (by kernel_rfl) ?_; intro gK9 wK9 hlK9 nK9 hbK9; have K9 := Lib.hid nK9; have LK9 := Lib.hid (Nat.le_trans (HB.out).size hlK9); replace HB := Lib.hid (bstep HB.out hbK9); clear hlK9 nK9 hbK9; try simp only [Act.put, List.setIfInBounds_toArray, List.set_cons_zero, List.set_cons_succ]))
        refine (small13_any [a, o] gK9 2 _ (holds_nums K9.out rfl rfl) (by decide)).mono ?_
        rintro e c1 ⟨rfl, hc1⟩
        replace K9 := Lib.hid ((K9.out).keptB hc1)
        replace HB := Lib.hid (bstep HB.out hc1)
        clear hc1
        rw [HSM.out]
        go_upto_region 4 with (first | (refine big_fill rfl 26 _ _ rfl gK7 (paA ⟨k, k, 0⟩) rfl rfl K7.out (by kernel_rfl) (by kernel_rfl) (by kernel_rfl) ?_; intro vK71 nK7 htK7; replace K7 := Lib.hid nK7; replace K9 := Lib.hid ((K9.out).touch htK7 OK9K7.out); replace HB := Lib.hid (btouch HB.out htK7 LK7.out); clear nK7 htK7; try simp only [Act.put, List.setIfInBounds_toArray, List.set_cons_zero, List.set_cons_succ]) | (refine big_alloc rfl 26 rfl (#[.int .i64 0, .int .i64 0, .int .i64 0]) (by kernel_rfl) ?_; intro gK7 wK7 hlK7 nK7 hbK7; have K7 := Lib.hid nK7; have LK7 := Lib.hid (Nat.le_trans (HB.out).size hlK7); have OK9K7 := Lib.hid ((K9.out).off hlK7); replace K9 := Lib.hid ((K9.out).keptB hbK7); replace HB := Lib.hid (bstep HB.out hbK7); clear hlK7 nK7 hbK7; try simp only [Act.put, List.setIfInBounds_toArray, List.set_cons_zero, List.set_cons_succ]) | (refine big_build rfl 26 _ rfl (#[.int .i64 k, .int .i64 k, .int .i64 0]) (by kernel_rfl) ?_; try simp only [Act.put, List.setIfInBounds_toArray, List.set_cons_zero, List.set_cons_succ]))
        go_wp2_with fail
        refine (of3_any o o _).mono ?_
        rintro e c2 ⟨rfl, hc2⟩
        replace K9 := Lib.hid ((K9.out).keptB hc2)
        replace K7 := Lib.hid ((K7.out).keptB hc2)
        replace HB := Lib.hid (bstep HB.out hc2)
        clear hc2
        rw [HOF.out]
        go_upto_region 5 with (first | (refine big_fill rfl 29 _ _ rfl gK8 (#[.int .i64 o, .int .i64 o, .bool true]) rfl rfl K8.out (by kernel_rfl) (by kernel_rfl) (by kernel_rfl) ?_; intro vK82 nK8 htK8; replace K8 := Lib.hid nK8; replace K9 := Lib.hid ((K9.out).touch htK8 OK9K8.out); replace K7 := Lib.hid ((K7.out).touch htK8 OK7K8.out); replace HB := Lib.hid (btouch HB.out htK8 LK8.out); clear nK8 htK8; try simp only [Act.put, List.setIfInBounds_toArray, List.set_cons_zero, List.set_cons_succ]) | (refine big_alloc rfl 29 rfl (#[.int .i64 0, .int .i64 0, .bool false]) (by kernel_rfl) ?_; intro gK8 wK8 hlK8 nK8 hbK8; have K8 := Lib.hid nK8; have LK8 := Lib.hid (Nat.le_trans (HB.out).size hlK8); have OK9K8 := Lib.hid ((K9.out).off hlK8); have OK7K8 := Lib.hid ((K7.out).off hlK8); replace K9 := Lib.hid ((K9.out).keptB hbK8); replace K7 := Lib.hid ((K7.out).keptB hbK8); replace HB := Lib.hid (bstep HB.out hbK8); clear hlK8 nK8 hbK8; try simp only [Act.put, List.setIfInBounds_toArray, List.set_cons_zero, List.set_cons_succ]))
        refine wp_region_held_drew (S := fun v => Below w.heap.size w v ∧ Holds v gK9 3 (#[.int .i64 a, .int .i64 o]) ∧ Holds v gK7 26 (paA ⟨k, k, 0⟩) ∧ Holds v gK8 29 (#[.int .i64 o, .int .i64 o, .bool true]) ∧ True) (by kernel_rfl) ?_ (fun hHeld => ?_)
        · exact ⟨bdrew HB.out, (K9.out).drew, (K7.out).drew, (K8.out).drew, trivial⟩
        clear HB K9 K7 K8
        refine wpAnyH_ready (rs := [0]) (by kernel_rfl) (by simp) ?_
        refine AllReadyH.cons (at_list rfl) (fun K hK => ?_) AllReadyH.nil
        go_simp
        refine (alive13_any _).mono ?_
        rintro e v3 ⟨rfl, hv3⟩
        go_wp2_with fail
        refine hK.out _ _ ?_ (fun hHeld2 => ?_)
        · exact ⟨bstep hHeld.1 hv3, (hHeld.2.1).keptB hv3, (hHeld.2.2.1).keptB hv3, (hHeld.2.2.2.1).keptB hv3, trivial⟩
        clear hK K hHeld
        have hHeld := hHeld2
        clear hHeld2 hv3
        try simp only [Act.put, List.setIfInBounds_toArray, List.set_cons_zero, List.set_cons_succ]
        refine wpAnyH_take (i := 1) (v := .bool true) (at_list rfl) (by kernel_rfl) (by kernel_rfl) (by kernel_rfl) (fun _ _ _ h => h) (Or.inl ⟨by rfl, ?_⟩) hHeld ?_
        · intro v hSv
          clear hHeld
          go_simp
        try simp only [Act.put, List.setIfInBounds_toArray, List.set_cons_zero, List.set_cons_succ]
        refine wpAnyH_take (i := 2) (v := .agg (paA ⟨k, k, 0⟩)) (at_list rfl) (by kernel_rfl) (by kernel_rfl) (by kernel_rfl) (fun _ _ _ h => h) (yields_whole (by rfl) 26 _ rfl gK7 rfl (fun v hv => hv.2.2.1) Try.underlying26 rfl (by kernel_rfl)) hHeld ?_
        try simp only [Act.put, List.setIfInBounds_toArray, List.set_cons_zero, List.set_cons_succ]
        refine wpAnyH_take (i := 3) (v := .int .i64 a) (at_list rfl) (by kernel_rfl) (by kernel_rfl) (by kernel_rfl) (fun _ _ _ h => h) (Or.inl ⟨by rfl, ?_⟩) hHeld ?_
        · intro v hSv
          clear hHeld
          go_simp
        try simp only [Act.put, List.setIfInBounds_toArray, List.set_cons_zero, List.set_cons_succ]
        refine wpAnyH_take (i := 4) (v := .int .i64 a) (at_list rfl) (by kernel_rfl) (by kernel_rfl) (by kernel_rfl) (fun _ _ _ h => h) (Or.inl ⟨by rfl, ?_⟩) hHeld ?_
        · intro v hSv
          clear hHeld
          go_simp
        try simp only [Act.put, List.setIfInBounds_toArray, List.set_cons_zero, List.set_cons_succ]
        refine wpAnyH_take (i := 5) (v := .int .i64 k) (at_list rfl) (by kernel_rfl) (by kernel_rfl) (by kernel_rfl) (fun _ _ _ h => h) (Or.inl ⟨by rfl, ?_⟩) hHeld ?_
        · intro v hSv
          clear hHeld
          go_simp
        try simp only [Act.put, List.setIfInBounds_toArray, List.set_cons_zero, List.set_cons_succ]
        refine wpAnyH_take (i := 6) (v := .int .i64 d) (at_list rfl) (by kernel_rfl) (by kernel_rfl) (by kernel_rfl) (fun _ _ _ h => h) (Or.inl ⟨by rfl, ?_⟩) hHeld ?_
        · intro v hSv
          clear hHeld
          go_simp
        try simp only [Act.put, List.setIfInBounds_toArray, List.set_cons_zero, List.set_cons_succ]
        refine wpAnyH_take (i := 7) (v := .int .i64 o) (at_list rfl) (by kernel_rfl) (by kernel_rfl) (by kernel_rfl) (fun _ _ _ h => h) (Or.inl ⟨by rfl, ?_⟩) hHeld ?_
        · intro v hSv
          clear hHeld
          go_simp
        try simp only [Act.put, List.setIfInBounds_toArray, List.set_cons_zero, List.set_cons_succ]
        refine wpAnyH_take (i := 8) (v := .int .i64 b) (at_list rfl) (by kernel_rfl) (by kernel_rfl) (by kernel_rfl) (fun _ _ _ h => h) (Or.inl ⟨by rfl, ?_⟩) hHeld ?_
        · intro v hSv
          clear hHeld
          go_simp
        try simp only [Act.put, List.setIfInBounds_toArray, List.set_cons_zero, List.set_cons_succ]
        refine wpAnyH_take (i := 10) (v := .agg (#[.int .i64 o, .int .i64 o, .bool true])) (at_list rfl) (by kernel_rfl) (by kernel_rfl) (by kernel_rfl) (fun _ _ _ h => h) (yields_whole (by rfl) 29 _ rfl gK8 rfl (fun v hv => hv.2.2.2.1) Try.underlying29 rfl (by kernel_rfl)) hHeld ?_
        try simp only [Act.put, List.setIfInBounds_toArray, List.set_cons_zero, List.set_cons_succ]
        refine wpAnyH_ready (rs := [9]) (by kernel_rfl) (by simp) ?_
        refine AllReadyH.cons (at_list rfl) (fun K hK => ?_) AllReadyH.nil
        go_simp
        refine (psync13_any ⟨k, k, 0⟩ a 0 b _ (by decide) (by decide)).mono ?_
        rintro e v4 ⟨rfl, hv4⟩
        rw [HES.out]
        go_wp2_with fail
        refine hK.out _ _ ?_ (fun hHeld2 => ?_)
        · exact ⟨bstep hHeld.1 hv4, (hHeld.2.1).keptB hv4, (hHeld.2.2.1).keptB hv4, (hHeld.2.2.2.1).keptB hv4, trivial⟩
        clear hK K hHeld
        have hHeld := hHeld2
        clear hHeld2 hv4
        try simp only [Act.put, List.setIfInBounds_toArray, List.set_cons_zero, List.set_cons_succ]
        refine wpAnyH_take (i := 11) (v := .bool true) (at_list rfl) (by kernel_rfl) (by kernel_rfl) (by kernel_rfl) (fun _ _ _ h => h) (yields_cmp (by rfl) .eql 29 _ _ _ rfl (#[.int .i64 o, .int .i64 o, .bool true]) (#[.int .i64 o, .int .i64 o, .bool true]) rfl rfl (by kernel_rfl) true (fun v => (eql_span _ _ _ _ _ _ v).trans (by rw [show eqS o o true o o true = true from eqS_refl ⟨o, o, true⟩]))) hHeld ?_
        try simp only [Act.put, List.setIfInBounds_toArray, List.set_cons_zero, List.set_cons_succ]
        refine wpAnyH_take (i := 12) (v := .bool true) (at_list rfl) (by kernel_rfl) (by kernel_rfl) (by kernel_rfl) (fun _ _ _ h => h) (Or.inl ⟨by rfl, ?_⟩) hHeld ?_
        · intro v hSv
          clear hHeld
          go_simp
        try simp only [Act.put, List.setIfInBounds_toArray, List.set_cons_zero, List.set_cons_succ]
        refine wpAnyH_take (i := 13) (v := .bool true) (at_list rfl) (by kernel_rfl) (by kernel_rfl) (by kernel_rfl) (fun _ _ _ h => h) (Or.inl ⟨by rfl, ?_⟩) hHeld ?_
        · intro v hSv
          clear hHeld
          go_simp
        try simp only [Act.put, List.setIfInBounds_toArray, List.set_cons_zero, List.set_cons_succ]
        refine wpAnyH_take (i := 14) (v := .agg (paA ⟨k, k, 0⟩)) (at_list rfl) (by kernel_rfl) (by kernel_rfl) (by kernel_rfl) (fun _ _ _ h => h) (yields_whole (by rfl) 26 _ rfl gK7 rfl (fun v hv => hv.2.2.1) Try.underlying26 rfl (by kernel_rfl)) hHeld ?_
        try simp only [Act.put, List.setIfInBounds_toArray, List.set_cons_zero, List.set_cons_succ]
        refine wpAnyH_take (i := 15) (v := .int .i64 a) (at_list rfl) (by kernel_rfl) (by kernel_rfl) (by kernel_rfl) (fun _ _ _ h => h) (Or.inl ⟨by rfl, ?_⟩) hHeld ?_
        · intro v hSv
          clear hHeld
          go_simp
        try simp only [Act.put, List.setIfInBounds_toArray, List.set_cons_zero, List.set_cons_succ]
        refine wpAnyH_take (i := 16) (v := .int .i64 o) (at_list rfl) (by kernel_rfl) (by kernel_rfl) (by kernel_rfl) (fun _ _ _ h => h) (Or.inl ⟨by rfl, ?_⟩) hHeld ?_
        · intro v hSv
          clear hHeld
          go_simp
        try simp only [Act.put, List.setIfInBounds_toArray, List.set_cons_zero, List.set_cons_succ]
        refine wpAnyH_take (i := 17) (v := .int .i64 c) (at_list rfl) (by kernel_rfl) (by kernel_rfl) (by kernel_rfl) (fun _ _ _ h => h) (Or.inl ⟨by rfl, ?_⟩) hHeld ?_
        · intro v hSv
          clear hHeld
          go_simp
        try simp only [Act.put, List.setIfInBounds_toArray, List.set_cons_zero, List.set_cons_succ]
        refine wpAnyH_take (i := 18) (v := .int .i64 a) (at_list rfl) (by kernel_rfl) (by kernel_rfl) (by kernel_rfl) (fun _ _ _ h => h) (Or.inl ⟨by rfl, ?_⟩) hHeld ?_
        · intro v hSv
          clear hHeld
          go_simp
        try simp only [Act.put, List.setIfInBounds_toArray, List.set_cons_zero, List.set_cons_succ]
        refine wpAnyH_take (i := 19) (v := .int .i64 k) (at_list rfl) (by kernel_rfl) (by kernel_rfl) (by kernel_rfl) (fun _ _ _ h => h) (Or.inl ⟨by rfl, ?_⟩) hHeld ?_
        · intro v hSv
          clear hHeld
          go_simp
        try simp only [Act.put, List.setIfInBounds_toArray, List.set_cons_zero, List.set_cons_succ]
        refine wpAnyH_take (i := 20) (v := .int .i64 d) (at_list rfl) (by kernel_rfl) (by kernel_rfl) (by kernel_rfl) (fun _ _ _ h => h) (Or.inl ⟨by rfl, ?_⟩) hHeld ?_
        · intro v hSv
          clear hHeld
          go_simp
        try simp only [Act.put, List.setIfInBounds_toArray, List.set_cons_zero, List.set_cons_succ]
        refine wpAnyH_take (i := 22) (v := .agg (#[.int .i64 o, .int .i64 o, .bool true])) (at_list rfl) (by kernel_rfl) (by kernel_rfl) (by kernel_rfl) (fun _ _ _ h => h) (yields_whole (by rfl) 29 _ rfl gK8 rfl (fun v hv => hv.2.2.2.1) Try.underlying29 rfl (by kernel_rfl)) hHeld ?_
        try simp only [Act.put, List.setIfInBounds_toArray, List.set_cons_zero, List.set_cons_succ]
        refine wpAnyH_ready (rs := [21]) (by kernel_rfl) (by simp) ?_
        refine AllReadyH.cons (at_list rfl) (fun K hK => ?_) AllReadyH.nil
        go_simp
        refine (preq13_any ⟨k, k, 0⟩ c 0 d _ (by decide) (by decide)).mono ?_
        rintro e v5 ⟨rfl, hv5⟩
        rw [HER.out]
        go_wp2_with fail
        refine hK.out _ _ ?_ (fun hHeld2 => ?_)
        · exact ⟨bstep hHeld.1 hv5, (hHeld.2.1).keptB hv5, (hHeld.2.2.1).keptB hv5, (hHeld.2.2.2.1).keptB hv5, trivial⟩
        clear hK K hHeld
        have hHeld := hHeld2
        clear hHeld2 hv5
        try simp only [Act.put, List.setIfInBounds_toArray, List.set_cons_zero, List.set_cons_succ]
        refine wpAnyH_take (i := 23) (v := .bool true) (at_list rfl) (by kernel_rfl) (by kernel_rfl) (by kernel_rfl) (fun _ _ _ h => h) (yields_cmp (by rfl) .eql 29 _ _ _ rfl (#[.int .i64 o, .int .i64 o, .bool true]) (#[.int .i64 o, .int .i64 o, .bool true]) rfl rfl (by kernel_rfl) true (fun v => (eql_span _ _ _ _ _ _ v).trans (by rw [show eqS o o true o o true = true from eqS_refl ⟨o, o, true⟩]))) hHeld ?_
        try simp only [Act.put, List.setIfInBounds_toArray, List.set_cons_zero, List.set_cons_succ]
        refine wpAnyH_take (i := 24) (v := .bool true) (at_list rfl) (by kernel_rfl) (by kernel_rfl) (by kernel_rfl) (fun _ _ _ h => h) (Or.inl ⟨by rfl, ?_⟩) hHeld ?_
        · intro v hSv
          clear hHeld
          go_simp
        try simp only [Act.put, List.setIfInBounds_toArray, List.set_cons_zero, List.set_cons_succ]
        refine wpAnyH_take (i := 25) (v := .bool true) (at_list rfl) (by kernel_rfl) (by kernel_rfl) (by kernel_rfl) (fun _ _ _ h => h) (Or.inl ⟨by rfl, ?_⟩) hHeld ?_
        · intro v hSv
          clear hHeld
          go_simp
        try simp only [Act.put, List.setIfInBounds_toArray, List.set_cons_zero, List.set_cons_succ]
        refine wpAnyH_done (by kernel_rfl) ?_ _
        have HB := Lib.hid hHeld.1
        have K9 := Lib.hid hHeld.2.1
        have K7 := Lib.hid hHeld.2.2.1
        have K8 := Lib.hid hHeld.2.2.2.1
        clear hHeld
        go_wp2
        try rw [Exit.noGoto_ret]
        go_ret
        exact ⟨rfl, HB.out⟩

end Go.Proofs.Ytdjomckfifcfdaa
