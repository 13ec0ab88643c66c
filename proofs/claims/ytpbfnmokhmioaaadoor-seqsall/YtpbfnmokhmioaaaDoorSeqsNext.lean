/- The walk over Next. -/
import Derived.Test.YtpbfnmokhmioaaaDoorSeqsOne
import Derived.Deep.DeepCutAuto
namespace Go.Proofs.YtpbfnmokhmioaaaDoor
set_option maxRecDepth 100000
open Go.RowKit
set_option linter.unusedVariables false
set_option linter.unusedSimpArgs false

set_option maxHeartbeats 4000000 in
theorem next11_0 (p m h : Nat) (b : Bk) (w : World) (hb : BookAt w p m h b) :
    Calls Tryd.prog 17 #[.pointer (some ⟨p, 0, none⟩), .int .i64 0] w fun e w' => e = .returned (.int .i64 (nextA b 0)) ∧ BookAt w' p m h (nextB b 0) ∧ Only [p] w.heap.size w w' := by
  have HB := Lib.hid (Below.refl w.heap.size w)
  have TB := Lib.hid hb
  clear hb
  have HX : Hid (nextA b 0 = b.nx 0) := rfl
  have HY : Hid (nextB b 0 = ⟨updN b.nx 0 (nextN (b.nx 0)), b.L, b.H⟩) := rfl
  have d0 : (longN 0 == 0) = false := rfl
  have x0 := ((TB.out).tab).reads (i := 0) (x := .int .i64 (b.nx 0)) rfl
  go_enter Tryd.func17, Tryd.ntmps17
  go_wp2_with fail
  refine (long_any 0 _ (TB.out).lens).mono ?_
  rintro e w1 ⟨rfl, rfl⟩
  go_upto_region 4 with fail
  clear x0
  replace TB := Lib.hid ((TB.out).drew)
  refine wp_region_held_drew (S := fun v => Only [p] w.heap.size w v) (by kernel_rfl) ?_ (fun hHeld => ?_)
  · exact only_of (bdrew HB.out)
  clear HB
  refine wpAnyH_take (i := 0) (v := .pointer (some ⟨p, 0, none⟩)) (at_list rfl) (by kernel_rfl) (by kernel_rfl) (by kernel_rfl) (fun _ _ _ h => h) (Or.inl ⟨by rfl, ?_⟩) hHeld ?_
  · intro v hSv
    clear hHeld
    go_simp
  try simp only [Act.put, List.setIfInBounds_toArray, List.set_cons_zero, List.set_cons_succ]
  refine wpAnyH_take (i := 1) (v := .int .i64 0) (at_list rfl) (by kernel_rfl) (by kernel_rfl) (by kernel_rfl) (fun _ _ _ h => h) (Or.inl ⟨by rfl, ?_⟩) hHeld ?_
  · intro v hSv
    clear hHeld
    go_simp
  try simp only [Act.put, List.setIfInBounds_toArray, List.set_cons_zero, List.set_cons_succ]
  refine wpAnyH_take (i := 2) (v := .int .i64 (b.nx 0)) (at_list rfl) (by kernel_rfl) (by kernel_rfl) (by kernel_rfl) (fun _ _ _ h => h) (Or.inl ⟨by rfl, ?_⟩) hHeld ?_
  · intro v hSv
    clear hHeld
    go_simp
  try simp only [Act.put, List.setIfInBounds_toArray, List.set_cons_zero, List.set_cons_succ]
  refine wpAnyH_take (i := 4) (v := .pointer (some ⟨p, 0, none⟩)) (at_list rfl) (by kernel_rfl) (by kernel_rfl) (by kernel_rfl) (fun _ _ _ h => h) (Or.inl ⟨by rfl, ?_⟩) hHeld ?_
  · intro v hSv
    clear hHeld
    go_simp
  try simp only [Act.put, List.setIfInBounds_toArray, List.set_cons_zero, List.set_cons_succ]
  refine wpAnyH_take (i := 5) (v := .pointer (some ⟨p, 0, none⟩)) (at_list rfl) (by kernel_rfl) (by kernel_rfl) (by kernel_rfl) (fun _ _ _ h => h) (Or.inl ⟨by rfl, ?_⟩) hHeld ?_
  · intro v hSv
    clear hHeld
    go_simp
  try simp only [Act.put, List.setIfInBounds_toArray, List.set_cons_zero, List.set_cons_succ]
  refine wpAnyH_ready (rs := [3]) (by kernel_rfl) (by simp) ?_
  refine AllReadyH.cons (at_list rfl) (fun K hK => ?_) AllReadyH.nil
  go_simp
  refine (next_any (b.nx 0) _).mono ?_
  rintro e v1 ⟨rfl, rfl⟩
  go_wp2_with fail
  refine hK.out _ _ ?_ (fun hHeld2 => ?_)
  · exact hHeld
  clear hK K hHeld
  have hHeld := hHeld2
  clear hHeld2
  try simp only [Act.put, List.setIfInBounds_toArray, List.set_cons_zero, List.set_cons_succ]
  refine wpAnyH_take (i := 6) (v := .pointer (some ⟨p, 0, none⟩)) (at_list rfl) (by kernel_rfl) (by kernel_rfl) (by kernel_rfl) (fun _ _ _ h => h) (Or.inl ⟨by rfl, ?_⟩) hHeld ?_
  · intro v hSv
    clear hHeld
    go_simp
  try simp only [Act.put, List.setIfInBounds_toArray, List.set_cons_zero, List.set_cons_succ]
  refine wpAnyH_ready (rs := [7]) (by kernel_rfl) (by simp) ?_
  refine AllReadyH.cons (at_list rfl) (fun K hK => ?_) AllReadyH.nil
  refine step_set (by rfl) 3 _ _ rfl p 0 (.int .i64 (nextN (b.nx 0))) rfl rfl (TB.out).tab (by kernel_rfl) rfl rfl (of_decide_eq_true (by kernel_rfl)) (bkC (updN b.nx 0 (nextN (b.nx 0))) m h) (by kernel_rfl) ?_
  intro w5 h5 t5
  replace TB := Lib.hid ((TB.out).withP h5 t5)
  refine hK.out _ _ ?_ (fun hHeld2 => ?_)
  · exact Only.touch hHeld t5 (fun _ => by simp)
  clear hK K hHeld
  have hHeld := hHeld2
  clear hHeld2
  try simp only [Act.put]
  clear h5 t5
  refine wpAnyH_done (by kernel_rfl) ?_ _
  have HO := Lib.hid hHeld
  clear hHeld
  go_wp2
  go_ret
  rw [HX.out, HY.out]
  exact ⟨rfl, TB.out, HO.out⟩
set_option maxHeartbeats 4000000 in
theorem next11_1 (p m h : Nat) (b : Bk) (w : World) (hb : BookAt w p m h b) :
    Calls Tryd.prog 17 #[.pointer (some ⟨p, 0, none⟩), .int .i64 1] w fun e w' => e = .returned (.int .i64 (nextA b 1)) ∧ BookAt w' p m h (nextB b 1) ∧ Only [p] w.heap.size w w' := by
  have HB := Lib.hid (Below.refl w.heap.size w)
  have TB := Lib.hid hb
  clear hb
  have HX : Hid (nextA b 1 = b.nx 1) := rfl
  have HY : Hid (nextB b 1 = ⟨updN b.nx 1 (nextN (b.nx 1)), b.L, b.H⟩) := rfl
  have d0 : (longN 1 == 0) = false := rfl
  have x1 := ((TB.out).tab).reads (i := 1) (x := .int .i64 (b.nx 1)) rfl
  go_enter Tryd.func17, Tryd.ntmps17
  go_wp2_with fail
  refine (long_any 1 _ (TB.out).lens).mono ?_
  rintro e w1 ⟨rfl, rfl⟩
  go_upto_region 4 with fail
  clear x1
  replace TB := Lib.hid ((TB.out).drew)
  refine wp_region_held_drew (S := fun v => Only [p] w.heap.size w v) (by kernel_rfl) ?_ (fun hHeld => ?_)
  · exact only_of (bdrew HB.out)
  clear HB
  refine wpAnyH_take (i := 0) (v := .pointer (some ⟨p, 0, none⟩)) (at_list rfl) (by kernel_rfl) (by kernel_rfl) (by kernel_rfl) (fun _ _ _ h => h) (Or.inl ⟨by rfl, ?_⟩) hHeld ?_
  · intro v hSv
    clear hHeld
    go_simp
  try simp only [Act.put, List.setIfInBounds_toArray, List.set_cons_zero, List.set_cons_succ]
  refine wpAnyH_take (i := 1) (v := .int .i64 1) (at_list rfl) (by kernel_rfl) (by kernel_rfl) (by kernel_rfl) (fun _ _ _ h => h) (Or.inl ⟨by rfl, ?_⟩) hHeld ?_
  · intro v hSv
    clear hHeld
    go_simp
  try simp only [Act.put, List.setIfInBounds_toArray, List.set_cons_zero, List.set_cons_succ]
  refine wpAnyH_take (i := 2) (v := .int .i64 (b.nx 1)) (at_list rfl) (by kernel_rfl) (by kernel_rfl) (by kernel_rfl) (fun _ _ _ h => h) (Or.inl ⟨by rfl, ?_⟩) hHeld ?_
  · intro v hSv
    clear hHeld
    go_simp
  try simp only [Act.put, List.setIfInBounds_toArray, List.set_cons_zero, List.set_cons_succ]
  refine wpAnyH_take (i := 4) (v := .pointer (some ⟨p, 0, none⟩)) (at_list rfl) (by kernel_rfl) (by kernel_rfl) (by kernel_rfl) (fun _ _ _ h => h) (Or.inl ⟨by rfl, ?_⟩) hHeld ?_
  · intro v hSv
    clear hHeld
    go_simp
  try simp only [Act.put, List.setIfInBounds_toArray, List.set_cons_zero, List.set_cons_succ]
  refine wpAnyH_take (i := 5) (v := .pointer (some ⟨p, 0, none⟩)) (at_list rfl) (by kernel_rfl) (by kernel_rfl) (by kernel_rfl) (fun _ _ _ h => h) (Or.inl ⟨by rfl, ?_⟩) hHeld ?_
  · intro v hSv
    clear hHeld
    go_simp
  try simp only [Act.put, List.setIfInBounds_toArray, List.set_cons_zero, List.set_cons_succ]
  refine wpAnyH_ready (rs := [3]) (by kernel_rfl) (by simp) ?_
  refine AllReadyH.cons (at_list rfl) (fun K hK => ?_) AllReadyH.nil
  go_simp
  refine (next_any (b.nx 1) _).mono ?_
  rintro e v1 ⟨rfl, rfl⟩
  go_wp2_with fail
  refine hK.out _ _ ?_ (fun hHeld2 => ?_)
  · exact hHeld
  clear hK K hHeld
  have hHeld := hHeld2
  clear hHeld2
  try simp only [Act.put, List.setIfInBounds_toArray, List.set_cons_zero, List.set_cons_succ]
  refine wpAnyH_take (i := 6) (v := .pointer (some ⟨p, 1, none⟩)) (at_list rfl) (by kernel_rfl) (by kernel_rfl) (by kernel_rfl) (fun _ _ _ h => h) (Or.inl ⟨by rfl, ?_⟩) hHeld ?_
  · intro v hSv
    clear hHeld
    go_simp
  try simp only [Act.put, List.setIfInBounds_toArray, List.set_cons_zero, List.set_cons_succ]
  refine wpAnyH_ready (rs := [7]) (by kernel_rfl) (by simp) ?_
  refine AllReadyH.cons (at_list rfl) (fun K hK => ?_) AllReadyH.nil
  refine step_set (by rfl) 3 _ _ rfl p 1 (.int .i64 (nextN (b.nx 1))) rfl rfl (TB.out).tab (by kernel_rfl) rfl rfl (of_decide_eq_true (by kernel_rfl)) (bkC (updN b.nx 1 (nextN (b.nx 1))) m h) (by kernel_rfl) ?_
  intro w5 h5 t5
  replace TB := Lib.hid ((TB.out).withP h5 t5)
  refine hK.out _ _ ?_ (fun hHeld2 => ?_)
  · exact Only.touch hHeld t5 (fun _ => by simp)
  clear hK K hHeld
  have hHeld := hHeld2
  clear hHeld2
  try simp only [Act.put]
  clear h5 t5
  refine wpAnyH_done (by kernel_rfl) ?_ _
  have HO := Lib.hid hHeld
  clear hHeld
  go_wp2
  go_ret
  rw [HX.out, HY.out]
  exact ⟨rfl, TB.out, HO.out⟩
set_option maxHeartbeats 4000000 in
theorem next11_8 (p m h : Nat) (b : Bk) (w : World) (hb : BookAt w p m h b) :
    Calls Tryd.prog 17 #[.pointer (some ⟨p, 0, none⟩), .int .i64 8] w fun e w' => e = .returned (.int .i64 (nextA b 8)) ∧ BookAt w' p m h (nextB b 8) ∧ Only [p] w.heap.size w w' := by
  have HB := Lib.hid (Below.refl w.heap.size w)
  have TB := Lib.hid hb
  clear hb
  have HX : Hid (nextA b 8 = b.nx 8) := rfl
  have HY : Hid (nextB b 8 = ⟨updN b.nx 8 (nextN (b.nx 8)), b.L, b.H⟩) := rfl
  have d0 : (longN 8 == 0) = false := rfl
  have x8 := ((TB.out).tab).reads (i := 8) (x := .int .i64 (b.nx 8)) rfl
  go_enter Tryd.func17, Tryd.ntmps17
  go_wp2_with fail
  refine (long_any 8 _ (TB.out).lens).mono ?_
  rintro e w1 ⟨rfl, rfl⟩
  go_upto_region 4 with fail
  clear x8
  replace TB := Lib.hid ((TB.out).drew)
  refine wp_region_held_drew (S := fun v => Only [p] w.heap.size w v) (by kernel_rfl) ?_ (fun hHeld => ?_)
  · exact only_of (bdrew HB.out)
  clear HB
  refine wpAnyH_take (i := 0) (v := .pointer (some ⟨p, 0, none⟩)) (at_list rfl) (by kernel_rfl) (by kernel_rfl) (by kernel_rfl) (fun _ _ _ h => h) (Or.inl ⟨by rfl, ?_⟩) hHeld ?_
  · intro v hSv
    clear hHeld
    go_simp
  try simp only [Act.put, List.setIfInBounds_toArray, List.set_cons_zero, List.set_cons_succ]
  refine wpAnyH_take (i := 1) (v := .int .i64 8) (at_list rfl) (by kernel_rfl) (by kernel_rfl) (by kernel_rfl) (fun _ _ _ h => h) (Or.inl ⟨by rfl, ?_⟩) hHeld ?_
  · intro v hSv
    clear hHeld
    go_simp
  try simp only [Act.put, List.setIfInBounds_toArray, List.set_cons_zero, List.set_cons_succ]
  refine wpAnyH_take (i := 2) (v := .int .i64 (b.nx 8)) (at_list rfl) (by kernel_rfl) (by kernel_rfl) (by kernel_rfl) (fun _ _ _ h => h) (Or.inl ⟨by rfl, ?_⟩) hHeld ?_
  · intro v hSv
    clear hHeld
    go_simp
  try simp only [Act.put, List.setIfInBounds_toArray, List.set_cons_zero, List.set_cons_succ]
  refine wpAnyH_take (i := 4) (v := .pointer (some ⟨p, 0, none⟩)) (at_list rfl) (by kernel_rfl) (by kernel_rfl) (by kernel_rfl) (fun _ _ _ h => h) (Or.inl ⟨by rfl, ?_⟩) hHeld ?_
  · intro v hSv
    clear hHeld
    go_simp
  try simp only [Act.put, List.setIfInBounds_toArray, List.set_cons_zero, List.set_cons_succ]
  refine wpAnyH_take (i := 5) (v := .pointer (some ⟨p, 0, none⟩)) (at_list rfl) (by kernel_rfl) (by kernel_rfl) (by kernel_rfl) (fun _ _ _ h => h) (Or.inl ⟨by rfl, ?_⟩) hHeld ?_
  · intro v hSv
    clear hHeld
    go_simp
  try simp only [Act.put, List.setIfInBounds_toArray, List.set_cons_zero, List.set_cons_succ]
  refine wpAnyH_ready (rs := [3]) (by kernel_rfl) (by simp) ?_
  refine AllReadyH.cons (at_list rfl) (fun K hK => ?_) AllReadyH.nil
  go_simp
  refine (next_any (b.nx 8) _).mono ?_
  rintro e v1 ⟨rfl, rfl⟩
  go_wp2_with fail
  refine hK.out _ _ ?_ (fun hHeld2 => ?_)
  · exact hHeld
  clear hK K hHeld
  have hHeld := hHeld2
  clear hHeld2
  try simp only [Act.put, List.setIfInBounds_toArray, List.set_cons_zero, List.set_cons_succ]
  refine wpAnyH_take (i := 6) (v := .pointer (some ⟨p, 8, none⟩)) (at_list rfl) (by kernel_rfl) (by kernel_rfl) (by kernel_rfl) (fun _ _ _ h => h) (Or.inl ⟨by rfl, ?_⟩) hHeld ?_
  · intro v hSv
    clear hHeld
    go_simp
  try simp only [Act.put, List.setIfInBounds_toArray, List.set_cons_zero, List.set_cons_succ]
  refine wpAnyH_ready (rs := [7]) (by kernel_rfl) (by simp) ?_
  refine AllReadyH.cons (at_list rfl) (fun K hK => ?_) AllReadyH.nil
  refine step_set (by rfl) 3 _ _ rfl p 8 (.int .i64 (nextN (b.nx 8))) rfl rfl (TB.out).tab (by kernel_rfl) rfl rfl (of_decide_eq_true (by kernel_rfl)) (bkC (updN b.nx 8 (nextN (b.nx 8))) m h) (by kernel_rfl) ?_
  intro w5 h5 t5
  replace TB := Lib.hid ((TB.out).withP h5 t5)
  refine hK.out _ _ ?_ (fun hHeld2 => ?_)
  · exact Only.touch hHeld t5 (fun _ => by simp)
  clear hK K hHeld
  have hHeld := hHeld2
  clear hHeld2
  try simp only [Act.put]
  clear h5 t5
  refine wpAnyH_done (by kernel_rfl) ?_ _
  have HO := Lib.hid hHeld
  clear hHeld
  go_wp2
  go_ret
  rw [HX.out, HY.out]
  exact ⟨rfl, TB.out, HO.out⟩
set_option maxHeartbeats 4000000 in
theorem next11_9 (p m h : Nat) (b : Bk) (w : World) (hb : BookAt w p m h b) :
    Calls Tryd.prog 17 #[.pointer (some ⟨p, 0, none⟩), .int .i64 9] w fun e w' => e = .returned (.int .i64 (nextA b 9)) ∧ BookAt w' p m h (nextB b 9) ∧ Only [p] w.heap.size w w' := by
  have HB := Lib.hid (Below.refl w.heap.size w)
  have TB := Lib.hid hb
  clear hb
  have HX : Hid (nextA b 9 = b.nx 9) := rfl
  have HY : Hid (nextB b 9 = ⟨updN b.nx 9 (nextN (b.nx 9)), b.L, b.H⟩) := rfl
  have d0 : (longN 9 == 0) = false := rfl
  have x9 := ((TB.out).tab).reads (i := 9) (x := .int .i64 (b.nx 9)) rfl
  go_enter Tryd.func17, Tryd.ntmps17
  go_wp2_with fail
  refine (long_any 9 _ (TB.out).lens).mono ?_
  rintro e w1 ⟨rfl, rfl⟩
  go_upto_region 4 with fail
  clear x9
  replace TB := Lib.hid ((TB.out).drew)
  refine wp_region_held_drew (S := fun v => Only [p] w.heap.size w v) (by kernel_rfl) ?_ (fun hHeld => ?_)
  · exact only_of (bdrew HB.out)
  clear HB
  refine wpAnyH_take (i := 0) (v := .pointer (some ⟨p, 0, none⟩)) (at_list rfl) (by kernel_rfl) (by kernel_rfl) (by kernel_rfl) (fun _ _ _ h => h) (Or.inl ⟨by rfl, ?_⟩) hHeld ?_
  · intro v hSv
    clear hHeld
    go_simp
  try simp only [Act.put, List.setIfInBounds_toArray, List.set_cons_zero, List.set_cons_succ]
  refine wpAnyH_take (i := 1) (v := .int .i64 9) (at_list rfl) (by kernel_rfl) (by kernel_rfl) (by kernel_rfl) (fun _ _ _ h => h) (Or.inl ⟨by rfl, ?_⟩) hHeld ?_
  · intro v hSv
    clear hHeld
    go_simp
  try simp only [Act.put, List.setIfInBounds_toArray, List.set_cons_zero, List.set_cons_succ]
  refine wpAnyH_take (i := 2) (v := .int .i64 (b.nx 9)) (at_list rfl) (by kernel_rfl) (by kernel_rfl) (by kernel_rfl) (fun _ _ _ h => h) (Or.inl ⟨by rfl, ?_⟩) hHeld ?_
  · intro v hSv
    clear hHeld
    go_simp
  try simp only [Act.put, List.setIfInBounds_toArray, List.set_cons_zero, List.set_cons_succ]
  refine wpAnyH_take (i := 4) (v := .pointer (some ⟨p, 0, none⟩)) (at_list rfl) (by kernel_rfl) (by kernel_rfl) (by kernel_rfl) (fun _ _ _ h => h) (Or.inl ⟨by rfl, ?_⟩) hHeld ?_
  · intro v hSv
    clear hHeld
    go_simp
  try simp only [Act.put, List.setIfInBounds_toArray, List.set_cons_zero, List.set_cons_succ]
  refine wpAnyH_take (i := 5) (v := .pointer (some ⟨p, 0, none⟩)) (at_list rfl) (by kernel_rfl) (by kernel_rfl) (by kernel_rfl) (fun _ _ _ h => h) (Or.inl ⟨by rfl, ?_⟩) hHeld ?_
  · intro v hSv
    clear hHeld
    go_simp
  try simp only [Act.put, List.setIfInBounds_toArray, List.set_cons_zero, List.set_cons_succ]
  refine wpAnyH_ready (rs := [3]) (by kernel_rfl) (by simp) ?_
  refine AllReadyH.cons (at_list rfl) (fun K hK => ?_) AllReadyH.nil
  go_simp
  refine (next_any (b.nx 9) _).mono ?_
  rintro e v1 ⟨rfl, rfl⟩
  go_wp2_with fail
  refine hK.out _ _ ?_ (fun hHeld2 => ?_)
  · exact hHeld
  clear hK K hHeld
  have hHeld := hHeld2
  clear hHeld2
  try simp only [Act.put, List.setIfInBounds_toArray, List.set_cons_zero, List.set_cons_succ]
  refine wpAnyH_take (i := 6) (v := .pointer (some ⟨p, 9, none⟩)) (at_list rfl) (by kernel_rfl) (by kernel_rfl) (by kernel_rfl) (fun _ _ _ h => h) (Or.inl ⟨by rfl, ?_⟩) hHeld ?_
  · intro v hSv
    clear hHeld
    go_simp
  try simp only [Act.put, List.setIfInBounds_toArray, List.set_cons_zero, List.set_cons_succ]
  refine wpAnyH_ready (rs := [7]) (by kernel_rfl) (by simp) ?_
  refine AllReadyH.cons (at_list rfl) (fun K hK => ?_) AllReadyH.nil
  refine step_set (by rfl) 3 _ _ rfl p 9 (.int .i64 (nextN (b.nx 9))) rfl rfl (TB.out).tab (by kernel_rfl) rfl rfl (of_decide_eq_true (by kernel_rfl)) (bkC (updN b.nx 9 (nextN (b.nx 9))) m h) (by kernel_rfl) ?_
  intro w5 h5 t5
  replace TB := Lib.hid ((TB.out).withP h5 t5)
  refine hK.out _ _ ?_ (fun hHeld2 => ?_)
  · exact Only.touch hHeld t5 (fun _ => by simp)
  clear hK K hHeld
  have hHeld := hHeld2
  clear hHeld2
  try simp only [Act.put]
  clear h5 t5
  refine wpAnyH_done (by kernel_rfl) ?_ _
  have HO := Lib.hid hHeld
  clear hHeld
  go_wp2
  go_ret
  rw [HX.out, HY.out]
  exact ⟨rfl, TB.out, HO.out⟩
set_option maxHeartbeats 4000000 in
theorem next11_11 (p m h : Nat) (b : Bk) (w : World) (hb : BookAt w p m h b) :
    Calls Tryd.prog 17 #[.pointer (some ⟨p, 0, none⟩), .int .i64 11] w fun e w' => e = .returned (.int .i64 (nextA b 11)) ∧ BookAt w' p m h (nextB b 11) ∧ Only [p] w.heap.size w w' := by
  have HB := Lib.hid (Below.refl w.heap.size w)
  have TB := Lib.hid hb
  clear hb
  have HX : Hid (nextA b 11 = b.nx 11) := rfl
  have HY : Hid (nextB b 11 = ⟨updN b.nx 11 (nextN (b.nx 11)), b.L, b.H⟩) := rfl
  have d0 : (longN 11 == 0) = false := rfl
  have x11 := ((TB.out).tab).reads (i := 11) (x := .int .i64 (b.nx 11)) rfl
  go_enter Tryd.func17, Tryd.ntmps17
  go_wp2_with fail
  refine (long_any 11 _ (TB.out).lens).mono ?_
  rintro e w1 ⟨rfl, rfl⟩
  go_upto_region 4 with fail
  clear x11
  replace TB := Lib.hid ((TB.out).drew)
  refine wp_region_held_drew (S := fun v => Only [p] w.heap.size w v) (by kernel_rfl) ?_ (fun hHeld => ?_)
  · exact only_of (bdrew HB.out)
  clear HB
  refine wpAnyH_take (i := 0) (v := .pointer (some ⟨p, 0, none⟩)) (at_list rfl) (by kernel_rfl) (by kernel_rfl) (by kernel_rfl) (fun _ _ _ h => h) (Or.inl ⟨by rfl, ?_⟩) hHeld ?_
  · intro v hSv
    clear hHeld
    go_simp
  try simp only [Act.put, List.setIfInBounds_toArray, List.set_cons_zero, List.set_cons_succ]
  refine wpAnyH_take (i := 1) (v := .int .i64 11) (at_list rfl) (by kernel_rfl) (by kernel_rfl) (by kernel_rfl) (fun _ _ _ h => h) (Or.inl ⟨by rfl, ?_⟩) hHeld ?_
  · intro v hSv
    clear hHeld
    go_simp
  try simp only [Act.put, List.setIfInBounds_toArray, List.set_cons_zero, List.set_cons_succ]
  refine wpAnyH_take (i := 2) (v := .int .i64 (b.nx 11)) (at_list rfl) (by kernel_rfl) (by kernel_rfl) (by kernel_rfl) (fun _ _ _ h => h) (Or.inl ⟨by rfl, ?_⟩) hHeld ?_
  · intro v hSv
    clear hHeld
    go_simp
  try simp only [Act.put, List.setIfInBounds_toArray, List.set_cons_zero, List.set_cons_succ]
  refine wpAnyH_take (i := 4) (v := .pointer (some ⟨p, 0, none⟩)) (at_list rfl) (by kernel_rfl) (by kernel_rfl) (by kernel_rfl) (fun _ _ _ h => h) (Or.inl ⟨by rfl, ?_⟩) hHeld ?_
  · intro v hSv
    clear hHeld
    go_simp
  try simp only [Act.put, List.setIfInBounds_toArray, List.set_cons_zero, List.set_cons_succ]
  refine wpAnyH_take (i := 5) (v := .pointer (some ⟨p, 0, none⟩)) (at_list rfl) (by kernel_rfl) (by kernel_rfl) (by kernel_rfl) (fun _ _ _ h => h) (Or.inl ⟨by rfl, ?_⟩) hHeld ?_
  · intro v hSv
    clear hHeld
    go_simp
  try simp only [Act.put, List.setIfInBounds_toArray, List.set_cons_zero, List.set_cons_succ]
  refine wpAnyH_ready (rs := [3]) (by kernel_rfl) (by simp) ?_
  refine AllReadyH.cons (at_list rfl) (fun K hK => ?_) AllReadyH.nil
  go_simp
  refine (next_any (b.nx 11) _).mono ?_
  rintro e v1 ⟨rfl, rfl⟩
  go_wp2_with fail
  refine hK.out _ _ ?_ (fun hHeld2 => ?_)
  · exact hHeld
  clear hK K hHeld
  have hHeld := hHeld2
  clear hHeld2
  try simp only [Act.put, List.setIfInBounds_toArray, List.set_cons_zero, List.set_cons_succ]
  refine wpAnyH_take (i := 6) (v := .pointer (some ⟨p, 11, none⟩)) (at_list rfl) (by kernel_rfl) (by kernel_rfl) (by kernel_rfl) (fun _ _ _ h => h) (Or.inl ⟨by rfl, ?_⟩) hHeld ?_
  · intro v hSv
    clear hHeld
    go_simp
  try simp only [Act.put, List.setIfInBounds_toArray, List.set_cons_zero, List.set_cons_succ]
  refine wpAnyH_ready (rs := [7]) (by kernel_rfl) (by simp) ?_
  refine AllReadyH.cons (at_list rfl) (fun K hK => ?_) AllReadyH.nil
  refine step_set (by rfl) 3 _ _ rfl p 11 (.int .i64 (nextN (b.nx 11))) rfl rfl (TB.out).tab (by kernel_rfl) rfl rfl (of_decide_eq_true (by kernel_rfl)) (bkC (updN b.nx 11 (nextN (b.nx 11))) m h) (by kernel_rfl) ?_
  intro w5 h5 t5
  replace TB := Lib.hid ((TB.out).withP h5 t5)
  refine hK.out _ _ ?_ (fun hHeld2 => ?_)
  · exact Only.touch hHeld t5 (fun _ => by simp)
  clear hK K hHeld
  have hHeld := hHeld2
  clear hHeld2
  try simp only [Act.put]
  clear h5 t5
  refine wpAnyH_done (by kernel_rfl) ?_ _
  have HO := Lib.hid hHeld
  clear hHeld
  go_wp2
  go_ret
  rw [HX.out, HY.out]
  exact ⟨rfl, TB.out, HO.out⟩
set_option maxHeartbeats 4000000 in
theorem next11_any (p m h : Nat) (b : Bk) (k : Int) (w : World) (hb : BookAt w p m h b) :
    Calls Tryd.prog 17 #[.pointer (some ⟨p, 0, none⟩), .int .i64 k] w fun e w' => e = .returned (.int .i64 (nextA b k)) ∧ BookAt w' p m h (nextB b k) ∧ Only [p] w.heap.size w w' := by
  by_cases hk : longN k = 0
  · have HB := Lib.hid (Below.refl w.heap.size w)
    have TB := Lib.hid hb
    clear hb
    have HX : Hid (nextA b k = 0) := if_pos hk
    have HY : Hid (nextB b k = b) := if_pos hk
    have d0 : (longN k == 0) = true := by simp [hk]
    clear hk
    go_enter Tryd.func17, Tryd.ntmps17
    go_wp2_with fail
    refine (long_any k _ (TB.out).lens).mono ?_
    rintro e w1 ⟨rfl, rfl⟩
    go_wp2
    go_ret
    rw [HX.out, HY.out]
    exact ⟨rfl, TB.out, only_of HB.out⟩
  · rcases kinds11 hk with rfl | rfl | rfl | rfl | rfl
    · exact next11_0 p m h b w hb
    · exact next11_1 p m h b w hb
    · exact next11_8 p m h b w hb
    · exact next11_9 p m h b w hb
    · exact next11_11 p m h b w hb

end Go.Proofs.YtpbfnmokhmioaaaDoor
