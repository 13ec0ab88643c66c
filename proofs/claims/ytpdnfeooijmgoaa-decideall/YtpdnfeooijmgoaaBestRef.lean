/- The walks over the reference of layer 9: Better, ByWay, Own. -/
import Derived.Test.YtpdnfeooijmgoaaBestMem
import Derived.Test.YtpdnfeooijmgoaaRankRef2
import Derived.Deep.DeepCutAuto
import Derived.Deep.LoopGhost
import Derived.WalkMore
namespace Go.Proofs.Ytpdnfeooijmgoaa
set_option maxRecDepth 100000
open Go.RowKit
set_option linter.unusedVariables false
set_option linter.unusedSimpArgs false

theorem ret_bool9 {a b : Bool} (h : a = b) : (Ending.returned (.bool a)) = .returned (.bool b) := by rw [h]
theorem ret_int9 {a b : Int} (h : a = b) : (Ending.returned (.int .i64 a)) = .returned (.int .i64 b) := by rw [h]
set_option maxHeartbeats 4000000 in
theorem rbetter9_any (a b : Ch) (w : World) (ha : a.s.ok) (hb : b.s.ok) :
    Calls Try.prog 18 #[.agg (chA a), .agg (chA b)] w fun e w' => e = .returned (.bool (betterB a b)) ∧ Below w.heap.size w w' := by
  have HB := Lib.hid (Below.refl w.heap.size w)
  obtain ⟨s, i⟩ := a
  obtain ⟨t, j⟩ := b
  have OA := Lib.hid ha
  have OB := Lib.hid hb
  clear ha hb
  cases i
  · cases j
    · have HX : Hid (betterB ⟨s, false⟩ ⟨t, false⟩ = false) := by unfold betterB; rfl
      go_enter Try.func18, Try.ntmps18
      go_upto_region 1 with (first | (refine big_box rfl 45 _ rfl (chA ⟨t, false⟩) rfl (by kernel_rfl) ?_; intro gK2 wK2 hlK2 nK2 hbK2; have K2 := Lib.hid nK2; have LK2 := Lib.hid (Nat.le_trans (HB.out).size hlK2); have OK1K2 := Lib.hid ((K1.out).off hlK2); replace K1 := Lib.hid ((K1.out).keptB hbK2); replace HB := Lib.hid (bstep HB.out hbK2); clear hlK2 nK2 hbK2; try simp only [Act.put, List.setIfInBounds_toArray, List.set_cons_zero, List.set_cons_succ]) | (refine big_box rfl 45 _ rfl (chA ⟨s, false⟩) rfl (by kernel_rfl) ?_; intro gK1 wK1 hlK1 nK1 hbK1; have K1 := Lib.hid nK1; have LK1 := Lib.hid (Nat.le_trans (HB.out).size hlK1); replace HB := Lib.hid (bstep HB.out hbK1); clear hlK1 nK1 hbK1; try simp only [Act.put, List.setIfInBounds_toArray, List.set_cons_zero, List.set_cons_succ]))
      have x1 := (K1.out).reads (i := 32) (x := .bool false) rfl
      have x2 := (K2.out).reads (i := 32) (x := .bool false) rfl
      go_wp2
      go_ret
      exact ⟨ret_bool9 HX.out.symm, HB.out⟩
    · have HX : Hid (betterB ⟨s, false⟩ ⟨t, true⟩ = false) := by unfold betterB; rfl
      go_enter Try.func18, Try.ntmps18
      go_upto_region 1 with (first | (refine big_box rfl 45 _ rfl (chA ⟨t, true⟩) rfl (by kernel_rfl) ?_; intro gK2 wK2 hlK2 nK2 hbK2; have K2 := Lib.hid nK2; have LK2 := Lib.hid (Nat.le_trans (HB.out).size hlK2); have OK1K2 := Lib.hid ((K1.out).off hlK2); replace K1 := Lib.hid ((K1.out).keptB hbK2); replace HB := Lib.hid (bstep HB.out hbK2); clear hlK2 nK2 hbK2; try simp only [Act.put, List.setIfInBounds_toArray, List.set_cons_zero, List.set_cons_succ]) | (refine big_box rfl 45 _ rfl (chA ⟨s, false⟩) rfl (by kernel_rfl) ?_; intro gK1 wK1 hlK1 nK1 hbK1; have K1 := Lib.hid nK1; have LK1 := Lib.hid (Nat.le_trans (HB.out).size hlK1); replace HB := Lib.hid (bstep HB.out hbK1); clear hlK1 nK1 hbK1; try simp only [Act.put, List.setIfInBounds_toArray, List.set_cons_zero, List.set_cons_succ]))
      have x1 := (K1.out).reads (i := 32) (x := .bool false) rfl
      have x2 := (K2.out).reads (i := 32) (x := .bool true) rfl
      go_wp2
      go_ret
      exact ⟨ret_bool9 HX.out.symm, HB.out⟩
  · cases j
    · have HX : Hid (betterB ⟨s, true⟩ ⟨t, false⟩ = true) := by unfold betterB; rfl
      go_enter Try.func18, Try.ntmps18
      go_upto_region 1 with (first | (refine big_box rfl 45 _ rfl (chA ⟨t, false⟩) rfl (by kernel_rfl) ?_; intro gK2 wK2 hlK2 nK2 hbK2; have K2 := Lib.hid nK2; have LK2 := Lib.hid (Nat.le_trans (HB.out).size hlK2); have OK1K2 := Lib.hid ((K1.out).off hlK2); replace K1 := Lib.hid ((K1.out).keptB hbK2); replace HB := Lib.hid (bstep HB.out hbK2); clear hlK2 nK2 hbK2; try simp only [Act.put, List.setIfInBounds_toArray, List.set_cons_zero, List.set_cons_succ]) | (refine big_box rfl 45 _ rfl (chA ⟨s, true⟩) rfl (by kernel_rfl) ?_; intro gK1 wK1 hlK1 nK1 hbK1; have K1 := Lib.hid nK1; have LK1 := Lib.hid (Nat.le_trans (HB.out).size hlK1); replace HB := Lib.hid (bstep HB.out hbK1); clear hlK1 nK1 hbK1; try simp only [Act.put, List.setIfInBounds_toArray, List.set_cons_zero, List.set_cons_succ]))
      have x1 := (K1.out).reads (i := 32) (x := .bool true) rfl
      have x2 := (K2.out).reads (i := 32) (x := .bool false) rfl
      go_wp2
      go_ret
      exact ⟨ret_bool9 HX.out.symm, HB.out⟩
    · obtain ⟨r, HL⟩ : ∃ r, Hid (lessB s t = r) := ⟨_, Lib.hid rfl⟩
      have HX : Hid (betterB ⟨s, true⟩ ⟨t, true⟩ = r) := by unfold betterB; rw [Hid]; simp only []; rw [HL.out]; rfl
      go_enter Try.func18, Try.ntmps18
      go_upto_region 1 with (first | (refine big_box rfl 45 _ rfl (chA ⟨t, true⟩) rfl (by kernel_rfl) ?_; intro gK2 wK2 hlK2 nK2 hbK2; have K2 := Lib.hid nK2; have LK2 := Lib.hid (Nat.le_trans (HB.out).size hlK2); have OK1K2 := Lib.hid ((K1.out).off hlK2); replace K1 := Lib.hid ((K1.out).keptB hbK2); replace HB := Lib.hid (bstep HB.out hbK2); clear hlK2 nK2 hbK2; try simp only [Act.put, List.setIfInBounds_toArray, List.set_cons_zero, List.set_cons_succ]) | (refine big_box rfl 45 _ rfl (chA ⟨s, true⟩) rfl (by kernel_rfl) ?_; intro gK1 wK1 hlK1 nK1 hbK1; have K1 := Lib.hid nK1; have LK1 := Lib.hid (Nat.le_trans (HB.out).size hlK1); replace HB := Lib.hid (bstep HB.out hbK1); clear hlK1 nK1 hbK1; try simp only [Act.put, List.setIfInBounds_toArray, List.set_cons_zero, List.set_cons_succ]))
      have x1 := (K1.out).reads (i := 32) (x := .bool true) rfl
      have x2 := (K2.out).reads (i := 32) (x := .bool true) rfl
      go_wp2_with (first | (refine big_load rfl 29 _ rfl gK1 0 rfl K1.out [.int .i64 s.p1, .int .i64 s.p2, .int .i64 s.q1, .int .i64 s.q2, .int .i64 s.q3, .int .u8 s.gr.b0, .int .u8 s.gr.b1, .int .u8 s.gr.b2, .int .u8 s.gr.b3, .int .u8 s.gr.b4, .int .u8 s.gr.b5, .int .u8 s.gr.b6, .int .u8 s.gr.b7, .int .i64 s.st, .int .u8 s.sn.c.b0, .int .u8 s.sn.c.b1, .int .u8 s.sn.c.b2, .int .u8 s.sn.c.b3, .int .u8 s.sn.c.b4, .int .u8 s.sn.c.b5, .int .u8 s.sn.c.b6, .int .u8 s.sn.c.b7, .int .i64 s.sn.n, .int .u8 s.rc.c.b0, .int .u8 s.rc.c.b1, .int .u8 s.rc.c.b2, .int .u8 s.rc.c.b3, .int .u8 s.rc.c.b4, .int .u8 s.rc.c.b5, .int .u8 s.rc.c.b6, .int .u8 s.rc.c.b7, .int .i64 s.rc.n] rfl Try.underlying29 rfl (by kernel_rfl) ?_; try simp only [Act.put, List.setIfInBounds_toArray, List.set_cons_zero, List.set_cons_succ]) | (refine big_load rfl 29 _ rfl gK2 0 rfl K2.out [.int .i64 t.p1, .int .i64 t.p2, .int .i64 t.q1, .int .i64 t.q2, .int .i64 t.q3, .int .u8 t.gr.b0, .int .u8 t.gr.b1, .int .u8 t.gr.b2, .int .u8 t.gr.b3, .int .u8 t.gr.b4, .int .u8 t.gr.b5, .int .u8 t.gr.b6, .int .u8 t.gr.b7, .int .i64 t.st, .int .u8 t.sn.c.b0, .int .u8 t.sn.c.b1, .int .u8 t.sn.c.b2, .int .u8 t.sn.c.b3, .int .u8 t.sn.c.b4, .int .u8 t.sn.c.b5, .int .u8 t.sn.c.b6, .int .u8 t.sn.c.b7, .int .i64 t.sn.n, .int .u8 t.rc.c.b0, .int .u8 t.rc.c.b1, .int .u8 t.rc.c.b2, .int .u8 t.rc.c.b3, .int .u8 t.rc.c.b4, .int .u8 t.rc.c.b5, .int .u8 t.rc.c.b6, .int .u8 t.rc.c.b7, .int .i64 t.rc.n] rfl Try.underlying29 rfl (by kernel_rfl) ?_; try simp only [Act.put, List.setIfInBounds_toArray, List.set_cons_zero, List.set_cons_succ]))
      clear x1 x2
      refine (rless7_any s t _ OA.out OB.out).mono ?_
      rintro e c1 ⟨rfl, hc1⟩
      replace K1 := Lib.hid ((K1.out).keptB hc1)
      replace K2 := Lib.hid ((K2.out).keptB hc1)
      replace HB := Lib.hid (bstep HB.out hc1)
      clear hc1
      rw [HL.out]
      go_wp2
      go_ret
      exact ⟨ret_bool9 HX.out.symm, HB.out⟩
set_option maxHeartbeats 4000000 in
theorem rbyway9_any (a b : Ch) (w : World) (ha : a.s.ok) (hb : b.s.ok) :
    Calls Try.prog 22 #[.agg (chA a), .agg (chA b)] w fun e w' => e = .returned (.bool (bywayB a b)) ∧ Below w.heap.size w w' := by
  have HB := Lib.hid (Below.refl w.heap.size w)
  obtain ⟨s, i⟩ := a
  obtain ⟨t, j⟩ := b
  have OA := Lib.hid ha
  have OB := Lib.hid hb
  clear ha hb
  cases i
  · cases j
    · have HX : Hid (bywayB ⟨s, false⟩ ⟨t, false⟩ = false) := by unfold bywayB; rfl
      go_enter Try.func22, Try.ntmps22
      go_upto_region 1 with (first | (refine big_box rfl 45 _ rfl (chA ⟨t, false⟩) rfl (by kernel_rfl) ?_; intro gK2 wK2 hlK2 nK2 hbK2; have K2 := Lib.hid nK2; have LK2 := Lib.hid (Nat.le_trans (HB.out).size hlK2); have OK1K2 := Lib.hid ((K1.out).off hlK2); replace K1 := Lib.hid ((K1.out).keptB hbK2); replace HB := Lib.hid (bstep HB.out hbK2); clear hlK2 nK2 hbK2; try simp only [Act.put, List.setIfInBounds_toArray, List.set_cons_zero, List.set_cons_succ]) | (refine big_box rfl 45 _ rfl (chA ⟨s, false⟩) rfl (by kernel_rfl) ?_; intro gK1 wK1 hlK1 nK1 hbK1; have K1 := Lib.hid nK1; have LK1 := Lib.hid (Nat.le_trans (HB.out).size hlK1); replace HB := Lib.hid (bstep HB.out hbK1); clear hlK1 nK1 hbK1; try simp only [Act.put, List.setIfInBounds_toArray, List.set_cons_zero, List.set_cons_succ]))
      have x1 := (K1.out).reads (i := 32) (x := .bool false) rfl
      have x2 := (K2.out).reads (i := 32) (x := .bool false) rfl
      go_wp2
      go_ret
      exact ⟨ret_bool9 HX.out.symm, HB.out⟩
    · have HX : Hid (bywayB ⟨s, false⟩ ⟨t, true⟩ = false) := by unfold bywayB; rfl
      go_enter Try.func22, Try.ntmps22
      go_upto_region 1 with (first | (refine big_box rfl 45 _ rfl (chA ⟨t, true⟩) rfl (by kernel_rfl) ?_; intro gK2 wK2 hlK2 nK2 hbK2; have K2 := Lib.hid nK2; have LK2 := Lib.hid (Nat.le_trans (HB.out).size hlK2); have OK1K2 := Lib.hid ((K1.out).off hlK2); replace K1 := Lib.hid ((K1.out).keptB hbK2); replace HB := Lib.hid (bstep HB.out hbK2); clear hlK2 nK2 hbK2; try simp only [Act.put, List.setIfInBounds_toArray, List.set_cons_zero, List.set_cons_succ]) | (refine big_box rfl 45 _ rfl (chA ⟨s, false⟩) rfl (by kernel_rfl) ?_; intro gK1 wK1 hlK1 nK1 hbK1; have K1 := Lib.hid nK1; have LK1 := Lib.hid (Nat.le_trans (HB.out).size hlK1); replace HB := Lib.hid (bstep HB.out hbK1); clear hlK1 nK1 hbK1; try simp only [Act.put, List.setIfInBounds_toArray, List.set_cons_zero, List.set_cons_succ]))
      have x1 := (K1.out).reads (i := 32) (x := .bool false) rfl
      have x2 := (K2.out).reads (i := 32) (x := .bool true) rfl
      go_wp2
      go_ret
      exact ⟨ret_bool9 HX.out.symm, HB.out⟩
  · cases j
    · have HX : Hid (bywayB ⟨s, true⟩ ⟨t, false⟩ = false) := by unfold bywayB; rfl
      go_enter Try.func22, Try.ntmps22
      go_upto_region 1 with (first | (refine big_box rfl 45 _ rfl (chA ⟨t, false⟩) rfl (by kernel_rfl) ?_; intro gK2 wK2 hlK2 nK2 hbK2; have K2 := Lib.hid nK2; have LK2 := Lib.hid (Nat.le_trans (HB.out).size hlK2); have OK1K2 := Lib.hid ((K1.out).off hlK2); replace K1 := Lib.hid ((K1.out).keptB hbK2); replace HB := Lib.hid (bstep HB.out hbK2); clear hlK2 nK2 hbK2; try simp only [Act.put, List.setIfInBounds_toArray, List.set_cons_zero, List.set_cons_succ]) | (refine big_box rfl 45 _ rfl (chA ⟨s, true⟩) rfl (by kernel_rfl) ?_; intro gK1 wK1 hlK1 nK1 hbK1; have K1 := Lib.hid nK1; have LK1 := Lib.hid (Nat.le_trans (HB.out).size hlK1); replace HB := Lib.hid (bstep HB.out hbK1); clear hlK1 nK1 hbK1; try simp only [Act.put, List.setIfInBounds_toArray, List.set_cons_zero, List.set_cons_succ]))
      have x1 := (K1.out).reads (i := 32) (x := .bool true) rfl
      have x2 := (K2.out).reads (i := 32) (x := .bool false) rfl
      go_wp2
      go_ret
      exact ⟨ret_bool9 HX.out.symm, HB.out⟩
    · obtain ⟨r, HL⟩ : ∃ r, Hid (compN s t = r) := ⟨_, Lib.hid rfl⟩
      cases hr : (r == 2)
      · have HX : Hid (bywayB ⟨s, true⟩ ⟨t, true⟩ = false) := by unfold bywayB; rw [Hid]; simp only []; rw [HL.out]; rw [hr]; rfl
        go_enter Try.func22, Try.ntmps22
        go_upto_region 1 with (first | (refine big_box rfl 45 _ rfl (chA ⟨t, true⟩) rfl (by kernel_rfl) ?_; intro gK2 wK2 hlK2 nK2 hbK2; have K2 := Lib.hid nK2; have LK2 := Lib.hid (Nat.le_trans (HB.out).size hlK2); have OK1K2 := Lib.hid ((K1.out).off hlK2); replace K1 := Lib.hid ((K1.out).keptB hbK2); replace HB := Lib.hid (bstep HB.out hbK2); clear hlK2 nK2 hbK2; try simp only [Act.put, List.setIfInBounds_toArray, List.set_cons_zero, List.set_cons_succ]) | (refine big_box rfl 45 _ rfl (chA ⟨s, true⟩) rfl (by kernel_rfl) ?_; intro gK1 wK1 hlK1 nK1 hbK1; have K1 := Lib.hid nK1; have LK1 := Lib.hid (Nat.le_trans (HB.out).size hlK1); replace HB := Lib.hid (bstep HB.out hbK1); clear hlK1 nK1 hbK1; try simp only [Act.put, List.setIfInBounds_toArray, List.set_cons_zero, List.set_cons_succ]))
        have x1 := (K1.out).reads (i := 32) (x := .bool true) rfl
        have x2 := (K2.out).reads (i := 32) (x := .bool true) rfl
        go_wp2_with (first | (refine big_load rfl 29 _ rfl gK1 0 rfl K1.out [.int .i64 s.p1, .int .i64 s.p2, .int .i64 s.q1, .int .i64 s.q2, .int .i64 s.q3, .int .u8 s.gr.b0, .int .u8 s.gr.b1, .int .u8 s.gr.b2, .int .u8 s.gr.b3, .int .u8 s.gr.b4, .int .u8 s.gr.b5, .int .u8 s.gr.b6, .int .u8 s.gr.b7, .int .i64 s.st, .int .u8 s.sn.c.b0, .int .u8 s.sn.c.b1, .int .u8 s.sn.c.b2, .int .u8 s.sn.c.b3, .int .u8 s.sn.c.b4, .int .u8 s.sn.c.b5, .int .u8 s.sn.c.b6, .int .u8 s.sn.c.b7, .int .i64 s.sn.n, .int .u8 s.rc.c.b0, .int .u8 s.rc.c.b1, .int .u8 s.rc.c.b2, .int .u8 s.rc.c.b3, .int .u8 s.rc.c.b4, .int .u8 s.rc.c.b5, .int .u8 s.rc.c.b6, .int .u8 s.rc.c.b7, .int .i64 s.rc.n] rfl Try.underlying29 rfl (by kernel_rfl) ?_; try simp only [Act.put, List.setIfInBounds_toArray, List.set_cons_zero, List.set_cons_succ]) | (refine big_load rfl 29 _ rfl gK2 0 rfl K2.out [.int .i64 t.p1, .int .i64 t.p2, .int .i64 t.q1, .int .i64 t.q2, .int .i64 t.q3, .int .u8 t.gr.b0, .int .u8 t.gr.b1, .int .u8 t.gr.b2, .int .u8 t.gr.b3, .int .u8 t.gr.b4, .int .u8 t.gr.b5, .int .u8 t.gr.b6, .int .u8 t.gr.b7, .int .i64 t.st, .int .u8 t.sn.c.b0, .int .u8 t.sn.c.b1, .int .u8 t.sn.c.b2, .int .u8 t.sn.c.b3, .int .u8 t.sn.c.b4, .int .u8 t.sn.c.b5, .int .u8 t.sn.c.b6, .int .u8 t.sn.c.b7, .int .i64 t.sn.n, .int .u8 t.rc.c.b0, .int .u8 t.rc.c.b1, .int .u8 t.rc.c.b2, .int .u8 t.rc.c.b3, .int .u8 t.rc.c.b4, .int .u8 t.rc.c.b5, .int .u8 t.rc.c.b6, .int .u8 t.rc.c.b7, .int .i64 t.rc.n] rfl Try.underlying29 rfl (by kernel_rfl) ?_; try simp only [Act.put, List.setIfInBounds_toArray, List.set_cons_zero, List.set_cons_succ]))
        clear x1 x2
        refine (rcomp7_any s t _ OA.out OB.out).mono ?_
        rintro e c1 ⟨rfl, hc1⟩
        replace K1 := Lib.hid ((K1.out).keptB hc1)
        replace K2 := Lib.hid ((K2.out).keptB hc1)
        replace HB := Lib.hid (bstep HB.out hc1)
        clear hc1
        rw [HL.out]
        go_wp2
        go_ret
        exact ⟨ret_bool9 HX.out.symm, HB.out⟩
      · have HX : Hid (bywayB ⟨s, true⟩ ⟨t, true⟩ = true) := by unfold bywayB; rw [Hid]; simp only []; rw [HL.out]; rw [hr]; rfl
        go_enter Try.func22, Try.ntmps22
        go_upto_region 1 with (first | (refine big_box rfl 45 _ rfl (chA ⟨t, true⟩) rfl (by kernel_rfl) ?_; intro gK2 wK2 hlK2 nK2 hbK2; have K2 := Lib.hid nK2; have LK2 := Lib.hid (Nat.le_trans (HB.out).size hlK2); have OK1K2 := Lib.hid ((K1.out).off hlK2); replace K1 := Lib.hid ((K1.out).keptB hbK2); replace HB := Lib.hid (bstep HB.out hbK2); clear hlK2 nK2 hbK2; try simp only [Act.put, List.setIfInBounds_toArray, List.set_cons_zero, List.set_cons_succ]) | (refine big_box rfl 45 _ rfl (chA ⟨s, true⟩) rfl (by kernel_rfl) ?_; intro gK1 wK1 hlK1 nK1 hbK1; have K1 := Lib.hid nK1; have LK1 := Lib.hid (Nat.le_trans (HB.out).size hlK1); replace HB := Lib.hid (bstep HB.out hbK1); clear hlK1 nK1 hbK1; try simp only [Act.put, List.setIfInBounds_toArray, List.set_cons_zero, List.set_cons_succ]))
        have x1 := (K1.out).reads (i := 32) (x := .bool true) rfl
        have x2 := (K2.out).reads (i := 32) (x := .bool true) rfl
        go_wp2_with (first | (refine big_load rfl 29 _ rfl gK1 0 rfl K1.out [.int .i64 s.p1, .int .i64 s.p2, .int .i64 s.q1, .int .i64 s.q2, .int .i64 s.q3, .int .u8 s.gr.b0, .int .u8 s.gr.b1, .int .u8 s.gr.b2, .int .u8 s.gr.b3, .int .u8 s.gr.b4, .int .u8 s.gr.b5, .int .u8 s.gr.b6, .int .u8 s.gr.b7, .int .i64 s.st, .int .u8 s.sn.c.b0, .int .u8 s.sn.c.b1, .int .u8 s.sn.c.b2, .int .u8 s.sn.c.b3, .int .u8 s.sn.c.b4, .int .u8 s.sn.c.b5, .int .u8 s.sn.c.b6, .int .u8 s.sn.c.b7, .int .i64 s.sn.n, .int .u8 s.rc.c.b0, .int .u8 s.rc.c.b1, .int .u8 s.rc.c.b2, .int .u8 s.rc.c.b3, .int .u8 s.rc.c.b4, .int .u8 s.rc.c.b5, .int .u8 s.rc.c.b6, .int .u8 s.rc.c.b7, .int .i64 s.rc.n] rfl Try.underlying29 rfl (by kernel_rfl) ?_; try simp only [Act.put, List.setIfInBounds_toArray, List.set_cons_zero, List.set_cons_succ]) | (refine big_load rfl 29 _ rfl gK2 0 rfl K2.out [.int .i64 t.p1, .int .i64 t.p2, .int .i64 t.q1, .int .i64 t.q2, .int .i64 t.q3, .int .u8 t.gr.b0, .int .u8 t.gr.b1, .int .u8 t.gr.b2, .int .u8 t.gr.b3, .int .u8 t.gr.b4, .int .u8 t.gr.b5, .int .u8 t.gr.b6, .int .u8 t.gr.b7, .int .i64 t.st, .int .u8 t.sn.c.b0, .int .u8 t.sn.c.b1, .int .u8 t.sn.c.b2, .int .u8 t.sn.c.b3, .int .u8 t.sn.c.b4, .int .u8 t.sn.c.b5, .int .u8 t.sn.c.b6, .int .u8 t.sn.c.b7, .int .i64 t.sn.n, .int .u8 t.rc.c.b0, .int .u8 t.rc.c.b1, .int .u8 t.rc.c.b2, .int .u8 t.rc.c.b3, .int .u8 t.rc.c.b4, .int .u8 t.rc.c.b5, .int .u8 t.rc.c.b6, .int .u8 t.rc.c.b7, .int .i64 t.rc.n] rfl Try.underlying29 rfl (by kernel_rfl) ?_; try simp only [Act.put, List.setIfInBounds_toArray, List.set_cons_zero, List.set_cons_succ]))
        clear x1 x2
        refine (rcomp7_any s t _ OA.out OB.out).mono ?_
        rintro e c1 ⟨rfl, hc1⟩
        replace K1 := Lib.hid ((K1.out).keptB hc1)
        replace K2 := Lib.hid ((K2.out).keptB hc1)
        replace HB := Lib.hid (bstep HB.out hc1)
        clear hc1
        rw [HL.out]
        go_wp2
        go_ret
        exact ⟨ret_bool9 HX.out.symm, HB.out⟩
end Go.Proofs.Ytpdnfeooijmgoaa
