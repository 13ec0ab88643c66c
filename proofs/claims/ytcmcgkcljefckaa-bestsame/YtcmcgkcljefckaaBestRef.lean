/- The walks over the reference of layer 9: Better, ByWay, Own. -/
import Derived.Test.YtcmcgkcljefckaaBestMem
import Derived.Test.YtcmcgkcljefckaaRankRef2
import Derived.Deep.DeepCutAuto
import Derived.Deep.LoopGhost
import Derived.WalkMore
namespace Go.Proofs.Ytcmcgkcljefckaa
set_option maxRecDepth 100000
open Go.RowKit
set_option linter.unusedVariables false
set_option linter.unusedSimpArgs false

theorem ret_bool9 {a b : Bool} (h : a = b) : (Ending.returned (.bool a)) = .returned (.bool b) := by rw [h]
theorem ret_int9 {a b : Int} (h : a = b) : (Ending.returned (.int .i64 a)) = .returned (.int .i64 b) := by rw [h]
set_option maxHeartbeats 4000000 in
theorem rbetter9_any (a b : Ch) (w : World) (ha : a.s.ok) (hb : b.s.ok) :
    Calls Try.prog 17 #[.agg (chA a), .agg (chA b)] w fun e w' => e = .returned (.bool (betterB a b)) ∧ Below w.heap.size w w' := by
  have HB := Lib.hid (Below.refl w.heap.size w)
  obtain ⟨s, i⟩ := a
  obtain ⟨t, j⟩ := b
  have OA := Lib.hid ha
  have OB := Lib.hid hb
  clear ha hb
  cases i
  · cases j
    · have HX : Hid (betterB ⟨s, false⟩ ⟨t, false⟩ = false) := by unfold betterB; rfl
      go_enter Try.func17, Try.ntmps17
      go_upto_region 1 with (first | (refine big_box rfl 33 _ rfl (chA ⟨t, false⟩) rfl (by kernel_rfl) ?_; intro gK2 wK2 hlK2 nK2 hbK2; have K2 := Lib.hid nK2; have LK2 := Lib.hid (Nat.le_trans (HB.out).size hlK2); have OK1K2 := Lib.hid ((K1.out).off hlK2); replace K1 := Lib.hid ((K1.out).keptB hbK2); replace HB := Lib.hid (bstep HB.out hbK2); clear hlK2 nK2 hbK2; try simp only [Act.put, List.setIfInBounds_toArray, List.set_cons_zero, List.set_cons_succ]) | (refine big_box rfl 33 _ rfl (chA ⟨s, false⟩) rfl (by kernel_rfl) ?_; intro gK1 wK1 hlK1 nK1 hbK1; have K1 := Lib.hid nK1; have LK1 := Lib.hid (Nat.le_trans (HB.out).size hlK1); replace HB := Lib.hid (bstep HB.out hbK1); clear hlK1 nK1 hbK1; try simp only [Act.put, List.setIfInBounds_toArray, List.set_cons_zero, List.set_cons_succ]))
      have x1 := (K1.out).reads (i := 32) (x := .bool false) rfl
      have x2 := (K2.out).reads (i := 32) (x := .bool false) rfl
      go_wp2
      go_ret
      exact ⟨ret_bool9 HX.out.symm, HB.out⟩
    · have HX : Hid (betterB ⟨s, false⟩ ⟨t, true⟩ = false) := by unfold betterB; rfl
      go_enter Try.func17, Try.ntmps17
      go_upto_region 1 with (first | (refine big_box rfl 33 _ rfl (chA ⟨t, true⟩) rfl (by kernel_rfl) ?_; intro gK2 wK2 hlK2 nK2 hbK2; have K2 := Lib.hid nK2; have LK2 := Lib.hid (Nat.le_trans (HB.out).size hlK2); have OK1K2 := Lib.hid ((K1.out).off hlK2); replace K1 := Lib.hid ((K1.out).keptB hbK2); replace HB := Lib.hid (bstep HB.out hbK2); clear hlK2 nK2 hbK2; try simp only [Act.put, List.setIfInBounds_toArray, List.set_cons_zero, List.set_cons_succ]) | (refine big_box rfl 33 _ rfl (chA ⟨s, false⟩) rfl (by kernel_rfl) ?_; intro gK1 wK1 hlK1 nK1 hbK1; have K1 := Lib.hid nK1; have LK1 := Lib.hid (Nat.le_trans (HB.out).size hlK1); replace HB := Lib.hid (bstep HB.out hbK1); clear hlK1 nK1 hbK1; try simp only [Act.put, List.setIfInBounds_toArray, List.set_cons_zero, List.set_cons_succ]))
      have x1 := (K1.out).reads (i := 32) (x := .bool false) rfl
      have x2 := (K2.out).reads (i := 32) (x := .bool true) rfl
      go_wp2
      go_ret
      exact ⟨ret_bool9 HX.out.symm, HB.out⟩
  · cases j
    · have HX : Hid (betterB ⟨s, true⟩ ⟨t, false⟩ = true) := by unfold betterB; rfl
      go_enter Try.func17, Try.ntmps17
      go_upto_region 1 with (first | (refine big_box rfl 33 _ rfl (chA ⟨t, false⟩) rfl (by kernel_rfl) ?_; intro gK2 wK2 hlK2 nK2 hbK2; have K2 := Lib.hid nK2; have LK2 := Lib.hid (Nat.le_trans (HB.out).size hlK2); have OK1K2 := Lib.hid ((K1.out).off hlK2); replace K1 := Lib.hid ((K1.out).keptB hbK2); replace HB := Lib.hid (bstep HB.out hbK2); clear hlK2 nK2 hbK2; try simp only [Act.put, List.setIfInBounds_toArray, List.set_cons_zero, List.set_cons_succ]) | (refine big_box rfl 33 _ rfl (chA ⟨s, true⟩) rfl (by kernel_rfl) ?_; intro gK1 wK1 hlK1 nK1 hbK1; have K1 := Lib.hid nK1; have LK1 := Lib.hid (Nat.le_trans (HB.out).size hlK1); replace HB := Lib.hid (bstep HB.out hbK1); clear hlK1 nK1 hbK1; try simp only [Act.put, List.setIfInBounds_toArray, List.set_cons_zero, List.set_cons_succ]))
      have x1 := (K1.out).reads (i := 32) (x := .bool true) rfl
      have x2 := (K2.out).reads (i := 32) (x := .bool false) rfl
      go_wp2
      go_ret
      exact ⟨ret_bool9 HX.out.symm, HB.out⟩
    · obtain ⟨r, HL⟩ : ∃ r, Hid (lessB s t = r) := ⟨_, Lib.hid rfl⟩
      have HX : Hid (betterB ⟨s, true⟩ ⟨t, true⟩ = r) := by unfold betterB; rw [Hid]; simp only []; rw [HL.out]; rfl
      go_enter Try.func17, Try.ntmps17
      go_upto_region 1 with (first | (refine big_box rfl 33 _ rfl (chA ⟨t, true⟩) rfl (by kernel_rfl) ?_; intro gK2 wK2 hlK2 nK2 hbK2; have K2 := Lib.hid nK2; have LK2 := Lib.hid (Nat.le_trans (HB.out).size hlK2); have OK1K2 := Lib.hid ((K1.out).off hlK2); replace K1 := Lib.hid ((K1.out).keptB hbK2); replace HB := Lib.hid (bstep HB.out hbK2); clear hlK2 nK2 hbK2; try simp only [Act.put, List.setIfInBounds_toArray, List.set_cons_zero, List.set_cons_succ]) | (refine big_box rfl 33 _ rfl (chA ⟨s, true⟩) rfl (by kernel_rfl) ?_; intro gK1 wK1 hlK1 nK1 hbK1; have K1 := Lib.hid nK1; have LK1 := Lib.hid (Nat.le_trans (HB.out).size hlK1); replace HB := Lib.hid (bstep HB.out hbK1); clear hlK1 nK1 hbK1; try simp only [Act.put, List.setIfInBounds_toArray, List.set_cons_zero, List.set_cons_succ]))
      have x1 := (K1.out).reads (i := 32) (x := .bool true) rfl
      have x2 := (K2.out).reads (i := 32) (x := .bool true) rfl
      go_wp2_with (first | (refine big_load rfl 31 _ rfl gK1 0 rfl K1.out [.int .i64 s.p1, .int .i64 s.p2, .int .i64 s.q1, .int .i64 s.q2, .int .i64 s.q3, .int .u8 s.gr.b0, .int .u8 s.gr.b1, .int .u8 s.gr.b2, .int .u8 s.gr.b3, .int .u8 s.gr.b4, .int .u8 s.gr.b5, .int .u8 s.gr.b6, .int .u8 s.gr.b7, .int .i64 s.st, .int .u8 s.sn.c.b0, .int .u8 s.sn.c.b1, .int .u8 s.sn.c.b2, .int .u8 s.sn.c.b3, .int .u8 s.sn.c.b4, .int .u8 s.sn.c.b5, .int .u8 s.sn.c.b6, .int .u8 s.sn.c.b7, .int .i64 s.sn.n, .int .u8 s.rc.c.b0, .int .u8 s.rc.c.b1, .int .u8 s.rc.c.b2, .int .u8 s.rc.c.b3, .int .u8 s.rc.c.b4, .int .u8 s.rc.c.b5, .int .u8 s.rc.c.b6, .int .u8 s.rc.c.b7, .int .i64 s.rc.n] rfl Try.underlying31 rfl (by kernel_rfl) ?_; try simp only [Act.put, List.setIfInBounds_toArray, List.set_cons_zero, List.set_cons_succ]) | (refine big_load rfl 31 _ rfl gK2 0 rfl K2.out [.int .i64 t.p1, .int .i64 t.p2, .int .i64 t.q1, .int .i64 t.q2, .int .i64 t.q3, .int .u8 t.gr.b0, .int .u8 t.gr.b1, .int .u8 t.gr.b2, .int .u8 t.gr.b3, .int .u8 t.gr.b4, .int .u8 t.gr.b5, .int .u8 t.gr.b6, .int .u8 t.gr.b7, .int .i64 t.st, .int .u8 t.sn.c.b0, .int .u8 t.sn.c.b1, .int .u8 t.sn.c.b2, .int .u8 t.sn.c.b3, .int .u8 t.sn.c.b4, .int .u8 t.sn.c.b5, .int .u8 t.sn.c.b6, .int .u8 t.sn.c.b7, .int .i64 t.sn.n, .int .u8 t.rc.c.b0, .int .u8 t.rc.c.b1, .int .u8 t.rc.c.b2, .int .u8 t.rc.c.b3, .int .u8 t.rc.c.b4, .int .u8 t.rc.c.b5, .int .u8 t.rc.c.b6, .int .u8 t.rc.c.b7, .int .i64 t.rc.n] rfl Try.underlying31 rfl (by kernel_rfl) ?_; try simp only [Act.put, List.setIfInBounds_toArray, List.set_cons_zero, List.set_cons_succ]))
      clear x1 x2
      refine (rless7_any s t _ OA.out OB.out).mono ?_
      rintro e c1 ⟨rfl, hc1⟩
      replace K1 := Lib.hid ((K1.out).keptB hc1)
      replace K2 := Lib.hid ((K2.out).keptB hc1)
      replace HB := Lib.hid (bstep HB.out hc1)
      clear hc1
      rw [HL.out]
      go_wp2
      go_ret
      exact ⟨ret_bool9 HX.out.symm, HB.out⟩
set_option maxHeartbeats 4000000 in
theorem rbyway9_any (a b : Ch) (w : World) (ha : a.s.ok) (hb : b.s.ok) :
    Calls Try.prog 19 #[.agg (chA a), .agg (chA b)] w fun e w' => e = .returned (.bool (bywayB a b)) ∧ Below w.heap.size w w' := by
  have HB := Lib.hid (Below.refl w.heap.size w)
  obtain ⟨s, i⟩ := a
  obtain ⟨t, j⟩ := b
  have OA := Lib.hid ha
  have OB := Lib.hid hb
  clear ha hb
  cases i
  · cases j
    · have HX : Hid (bywayB ⟨s, false⟩ ⟨t, false⟩ = false) := by unfold bywayB; rfl
      go_enter Try.func19, Try.ntmps19
      go_upto_region 1 with (first | (refine big_box rfl 33 _ rfl (chA ⟨t, false⟩) rfl (by kernel_rfl) ?_; intro gK2 wK2 hlK2 nK2 hbK2; have K2 := Lib.hid nK2; have LK2 := Lib.hid (Nat.le_trans (HB.out).size hlK2); have OK1K2 := Lib.hid ((K1.out).off hlK2); replace K1 := Lib.hid ((K1.out).keptB hbK2); replace HB := Lib.hid (bstep HB.out hbK2); clear hlK2 nK2 hbK2; try simp only [Act.put, List.setIfInBounds_toArray, List.set_cons_zero, List.set_cons_succ]) | (refine big_box rfl 33 _ rfl (chA ⟨s, false⟩) rfl (by kernel_rfl) ?_; intro gK1 wK1 hlK1 nK1 hbK1; have K1 := Lib.hid nK1; have LK1 := Lib.hid (Nat.le_trans (HB.out).size hlK1); replace HB := Lib.hid (bstep HB.out hbK1); clear hlK1 nK1 hbK1; try simp only [Act.put, List.setIfInBounds_toArray, List.set_cons_zero, List.set_cons_succ]))
      have x1 := (K1.out).reads (i := 32) (x := .bool false) rfl
      have x2 := (K2.out).reads (i := 32) (x := .bool false) rfl
      go_wp2
      go_ret
      exact ⟨ret_bool9 HX.out.symm, HB.out⟩
    · have HX : Hid (bywayB ⟨s, false⟩ ⟨t, true⟩ = false) := by unfold bywayB; rfl
      go_enter Try.func19, Try.ntmps19
      go_upto_region 1 with (first | (refine big_box rfl 33 _ rfl (chA ⟨t, true⟩) rfl (by kernel_rfl) ?_; intro gK2 wK2 hlK2 nK2 hbK2; have K2 := Lib.hid nK2; have LK2 := Lib.hid (Nat.le_trans (HB.out).size hlK2); have OK1K2 := Lib.hid ((K1.out).off hlK2); replace K1 := Lib.hid ((K1.out).keptB hbK2); replace HB := Lib.hid (bstep HB.out hbK2); clear hlK2 nK2 hbK2; try simp only [Act.put, List.setIfInBounds_toArray, List.set_cons_zero, List.set_cons_succ]) | (refine big_box rfl 33 _ rfl (chA ⟨s, false⟩) rfl (by kernel_rfl) ?_; intro gK1 wK1 hlK1 nK1 hbK1; have K1 := Lib.hid nK1; have LK1 := Lib.hid (Nat.le_trans (HB.out).size hlK1); replace HB := Lib.hid (bstep HB.out hbK1); clear hlK1 nK1 hbK1; try simp only [Act.put, List.setIfInBounds_toArray, List.set_cons_zero, List.set_cons_succ]))
      have x1 := (K1.out).reads (i := 32) (x := .bool false) rfl
      have x2 := (K2.out).reads (i := 32) (x := .bool true) rfl
      go_wp2
      go_ret
      exact ⟨ret_bool9 HX.out.symm, HB.out⟩
  · cases j
    · have HX : Hid (bywayB ⟨s, true⟩ ⟨t, false⟩ = false) := by unfold bywayB; rfl
      go_enter Try.func19, Try.ntmps19
      go_upto_region 1 with (first | (refine big_box rfl 33 _ rfl (chA ⟨t, false⟩) rfl (by kernel_rfl) ?_; intro gK2 wK2 hlK2 nK2 hbK2; have K2 := Lib.hid nK2; have LK2 := Lib.hid (Nat.le_trans (HB.out).size hlK2); have OK1K2 := Lib.hid ((K1.out).off hlK2); replace K1 := Lib.hid ((K1.out).keptB hbK2); replace HB := Lib.hid (bstep HB.out hbK2); clear hlK2 nK2 hbK2; try simp only [Act.put, List.setIfInBounds_toArray, List.set_cons_zero, List.set_cons_succ]) | (refine big_box rfl 33 _ rfl (chA ⟨s, true⟩) rfl (by kernel_rfl) ?_; intro gK1 wK1 hlK1 nK1 hbK1; have K1 := Lib.hid nK1; have LK1 := Lib.hid (Nat.le_trans (HB.out).size hlK1); replace HB := Lib.hid (bstep HB.out hbK1); clear hlK1 nK1 hbK1; try simp only [Act.put, List.setIfInBounds_toArray, List.set_cons_zero, List.set_cons_succ]))
      have x1 := (K1.out).reads (i := 32) (x := .bool true) rfl
      have x2 := (K2.out).reads (i := 32) (x := .bool false) rfl
      go_wp2
      go_ret
      exact ⟨ret_bool9 HX.out.symm, HB.out⟩
    · obtain ⟨r, HL⟩ : ∃ r, Hid (compN s t = r) := ⟨_, Lib.hid rfl⟩
      cases hr : (r == 2)
      · have HX : Hid (bywayB ⟨s, true⟩ ⟨t, true⟩ = false) := by unfold bywayB; rw [Hid]; simp only []; rw [HL.out]; rw [hr]; rfl
        go_enter Try.func19, Try.ntmps19
        go_upto_region 1 with (first | (refine big_box rfl 33 _ rfl (chA ⟨t, true⟩) rfl (by kernel_rfl) ?_; intro gK2 wK2 hlK2 nK2 hbK2; have K2 := Lib.hid nK2; have LK2 := Lib.hid (Nat.le_trans (HB.out).size hlK2); have OK1K2 := Lib.hid ((K1.out).off hlK2); replace K1 := Lib.hid ((K1.out).keptB hbK2); replace HB := Lib.hid (bstep HB.out hbK2); clear hlK2 nK2 hbK2; try simp only [Act.put, List.setIfInBounds_toArray, List.set_cons_zero, List.set_cons_succ]) | (refine big_box rfl 33 _ rfl (chA ⟨s, true⟩) rfl (by kernel_rfl) ?_; intro gK1 wK1 hlK1 nK1 hbK1; have K1 := Lib.hid nK1; have LK1 := Lib.hid (Nat.le_trans (HB.out).size hlK1); replace HB := Lib.hid (bstep HB.out hbK1); clear hlK1 nK1 hbK1; try simp only [Act.put, List.setIfInBounds_toArray, List.set_cons_zero, List.set_cons_succ]))
        have x1 := (K1.out).reads (i := 32) (x := .bool true) rfl
        have x2 := (K2.out).reads (i := 32) (x := .bool true) rfl
        go_wp2_with (first | (refine big_load rfl 31 _ rfl gK1 0 rfl K1.out [.int .i64 s.p1, .int .i64 s.p2, .int .i64 s.q1, .int .i64 s.q2, .int .i64 s.q3, .int .u8 s.gr.b0, .int .u8 s.gr.b1, .int .u8 s.gr.b2, .int .u8 s.gr.b3, .int .u8 s.gr.b4, .int .u8 s.gr.b5, .int .u8 s.gr.b6, .int .u8 s.gr.b7, .int .i64 s.st, .int .u8 s.sn.c.b0, .int .u8 s.sn.c.b1, .int .u8 s.sn.c.b2, .int .u8 s.sn.c.b3, .int .u8 s.sn.c.b4, .int .u8 s.sn.c.b5, .int .u8 s.sn.c.b6, .int .u8 s.sn.c.b7, .int .i64 s.sn.n, .int .u8 s.rc.c.b0, .int .u8 s.rc.c.b1, .int .u8 s.rc.c.b2, .int .u8 s.rc.c.b3, .int .u8 s.rc.c.b4, .int .u8 s.rc.c.b5, .int .u8 s.rc.c.b6, .int .u8 s.rc.c.b7, .int .i64 s.rc.n] rfl Try.underlying31 rfl (by kernel_rfl) ?_; try simp only [Act.put, List.setIfInBounds_toArray, List.set_cons_zero, List.set_cons_succ]) | (refine big_load rfl 31 _ rfl gK2 0 rfl K2.out [.int .i64 t.p1, .int .i64 t.p2, .int .i64 t.q1, .int .i64 t.q2, .int .i64 t.q3, .int .u8 t.gr.b0, .int .u8 t.gr.b1, .int .u8 t.gr.b2, .int .u8 t.gr.b3, .int .u8 t.gr.b4, .int .u8 t.gr.b5, .int .u8 t.gr.b6, .int .u8 t.gr.b7, .int .i64 t.st, .int .u8 t.sn.c.b0, .int .u8 t.sn.c.b1, .int .u8 t.sn.c.b2, .int .u8 t.sn.c.b3, .int .u8 t.sn.c.b4, .int .u8 t.sn.c.b5, .int .u8 t.sn.c.b6, .int .u8 t.sn.c.b7, .int .i64 t.sn.n, .int .u8 t.rc.c.b0, .int .u8 t.rc.c.b1, .int .u8 t.rc.c.b2, .int .u8 t.rc.c.b3, .int .u8 t.rc.c.b4, .int .u8 t.rc.c.b5, .int .u8 t.rc.c.b6, .int .u8 t.rc.c.b7, .int .i64 t.rc.n] rfl Try.underlying31 rfl (by kernel_rfl) ?_; try simp only [Act.put, List.setIfInBounds_toArray, List.set_cons_zero, List.set_cons_succ]))
        clear x1 x2
        refine (rcomp7_any s t _ OA.out OB.out).mono ?_
        rintro e c1 ⟨rfl, hc1⟩
        replace K1 := Lib.hid ((K1.out).keptB hc1)
        replace K2 := Lib.hid ((K2.out).keptB hc1)
        replace HB := Lib.hid (bstep HB.out hc1)
        clear hc1
        rw [HL.out]
        go_wp2
        go_ret
        exact ⟨ret_bool9 HX.out.symm, HB.out⟩
      · have HX : Hid (bywayB ⟨s, true⟩ ⟨t, true⟩ = true) := by unfold bywayB; rw [Hid]; simp only []; rw [HL.out]; rw [hr]; rfl
        go_enter Try.func19, Try.ntmps19
        go_upto_region 1 with (first | (refine big_box rfl 33 _ rfl (chA ⟨t, true⟩) rfl (by kernel_rfl) ?_; intro gK2 wK2 hlK2 nK2 hbK2; have K2 := Lib.hid nK2; have LK2 := Lib.hid (Nat.le_trans (HB.out).size hlK2); have OK1K2 := Lib.hid ((K1.out).off hlK2); replace K1 := Lib.hid ((K1.out).keptB hbK2); replace HB := Lib.hid (bstep HB.out hbK2); clear hlK2 nK2 hbK2; try simp only [Act.put, List.setIfInBounds_toArray, List.set_cons_zero, List.set_cons_succ]) | (refine big_box rfl 33 _ rfl (chA ⟨s, true⟩) rfl (by kernel_rfl) ?_; intro gK1 wK1 hlK1 nK1 hbK1; have K1 := Lib.hid nK1; have LK1 := Lib.hid (Nat.le_trans (HB.out).size hlK1); replace HB := Lib.hid (bstep HB.out hbK1); clear hlK1 nK1 hbK1; try simp only [Act.put, List.setIfInBounds_toArray, List.set_cons_zero, List.set_cons_succ]))
        have x1 := (K1.out).reads (i := 32) (x := .bool true) rfl
        have x2 := (K2.out).reads (i := 32) (x := .bool true) rfl
        go_wp2_with (first | (refine big_load rfl 31 _ rfl gK1 0 rfl K1.out [.int .i64 s.p1, .int .i64 s.p2, .int .i64 s.q1, .int .i64 s.q2, .int .i64 s.q3, .int .u8 s.gr.b0, .int .u8 s.gr.b1, .int .u8 s.gr.b2, .int .u8 s.gr.b3, .int .u8 s.gr.b4, .int .u8 s.gr.b5, .int .u8 s.gr.b6, .int .u8 s.gr.b7, .int .i64 s.st, .int .u8 s.sn.c.b0, .int .u8 s.sn.c.b1, .int .u8 s.sn.c.b2, .int .u8 s.sn.c.b3, .int .u8 s.sn.c.b4, .int .u8 s.sn.c.b5, .int .u8 s.sn.c.b6, .int .u8 s.sn.c.b7, .int .i64 s.sn.n, .int .u8 s.rc.c.b0, .int .u8 s.rc.c.b1, .int .u8 s.rc.c.b2, .int .u8 s.rc.c.b3, .int .u8 s.rc.c.b4, .int .u8 s.rc.c.b5, .int .u8 s.rc.c.b6, .int .u8 s.rc.c.b7, .int .i64 s.rc.n] rfl Try.underlying31 rfl (by kernel_rfl) ?_; try simp only [Act.put, List.setIfInBounds_toArray, List.set_cons_zero, List.set_cons_succ]) | (refine big_load rfl 31 _ rfl gK2 0 rfl K2.out [.int .i64 t.p1, .int .i64 t.p2, .int .i64 t.q1, .int .i64 t.q2, .int .i64 t.q3, .int .u8 t.gr.b0, .int .u8 t.gr.b1, .int .u8 t.gr.b2, .int .u8 t.gr.b3, .int .u8 t.gr.b4, .int .u8 t.gr.b5, .int .u8 t.gr.b6, .int .u8 t.gr.b7, .int .i64 t.st, .int .u8 t.sn.c.b0, .int .u8 t.sn.c.b1, .int .u8 t.sn.c.b2, .int .u8 t.sn.c.b3, .int .u8 t.sn.c.b4, .int .u8 t.sn.c.b5, .int .u8 t.sn.c.b6, .int .u8 t.sn.c.b7, .int .i64 t.sn.n, .int .u8 t.rc.c.b0, .int .u8 t.rc.c.b1, .int .u8 t.rc.c.b2, .int .u8 t.rc.c.b3, .int .u8 t.rc.c.b4, .int .u8 t.rc.c.b5, .int .u8 t.rc.c.b6, .int .u8 t.rc.c.b7, .int .i64 t.rc.n] rfl Try.underlying31 rfl (by kernel_rfl) ?_; try simp only [Act.put, List.setIfInBounds_toArray, List.set_cons_zero, List.set_cons_succ]))
        clear x1 x2
        refine (rcomp7_any s t _ OA.out OB.out).mono ?_
        rintro e c1 ⟨rfl, hc1⟩
        replace K1 := Lib.hid ((K1.out).keptB hc1)
        replace K2 := Lib.hid ((K2.out).keptB hc1)
        replace HB := Lib.hid (bstep HB.out hc1)
        clear hc1
        rw [HL.out]
        go_wp2
        go_ret
        exact ⟨ret_bool9 HX.out.symm, HB.out⟩
set_option maxHeartbeats 4000000 in
theorem rown9_any (c : Ck) (q1 q2 q3 one two : Int) (w : World) :
    Calls Try.prog 20 #[.agg #[.int .u8 c.b0, .int .u8 c.b1, .int .u8 c.b2, .int .u8 c.b3, .int .u8 c.b4, .int .u8 c.b5, .int .u8 c.b6, .int .u8 c.b7], .agg #[.int .i64 q1, .int .i64 q2, .int .i64 q3], .int .i64 one, .int .i64 two] w fun e w' => e = .returned (.agg (rsA (ownN c q1 q2 q3 one two))) ∧ Below w.heap.size w w' := by
  have HB := Lib.hid (Below.refl w.heap.size w)
  go_enter Try.func20, Try.ntmps20
  go_wp2_with (first | (refine big_fill rfl 31 _ _ rfl gK8 (rsA (ownN c q1 q2 q3 one two)) rfl rfl K8.out (by kernel_rfl) (by kernel_rfl) (by kernel_rfl) ?_; intro vK80 nK8 htK8; replace K8 := Lib.hid nK8; replace K4 := Lib.hid ((K4.out).touch htK8 OK4K8.out); replace K5 := Lib.hid ((K5.out).touch htK8 OK5K8.out); replace HB := Lib.hid (btouch HB.out htK8 LK8.out); clear nK8 htK8; try simp only [Act.put, List.setIfInBounds_toArray, List.set_cons_zero, List.set_cons_succ]) | (refine big_build rfl 31 _ rfl (rsA (ownN c q1 q2 q3 one two)) (by kernel_rfl) ?_; try simp only [Act.put, List.setIfInBounds_toArray, List.set_cons_zero, List.set_cons_succ]) | (refine big_load rfl 24 _ rfl gK4 0 rfl K4.out [.int .u8 c.b0, .int .u8 c.b1, .int .u8 c.b2, .int .u8 c.b3, .int .u8 c.b4, .int .u8 c.b5, .int .u8 c.b6, .int .u8 c.b7] rfl Try.underlying24 rfl (by kernel_rfl) ?_; try simp only [Act.put, List.setIfInBounds_toArray, List.set_cons_zero, List.set_cons_succ]) | (refine big_load rfl 29 _ rfl gK5 0 rfl K5.out [.int .i64 q1, .int .i64 q2, .int .i64 q3] rfl Try.underlying29 rfl (by kernel_rfl) ?_; try simp only [Act.put, List.setIfInBounds_toArray, List.set_cons_zero, List.set_cons_succ]) | (refine big_alloc rfl 31 rfl (rsA zeroR) (by kernel_rfl) ?_; intro gK8 wK8 hlK8 nK8 hbK8; have K8 := Lib.hid nK8; have LK8 := Lib.hid (Nat.le_trans (HB.out).size hlK8); have OK4K8 := Lib.hid ((K4.out).off hlK8); have OK5K8 := Lib.hid ((K5.out).off hlK8); replace K4 := Lib.hid ((K4.out).keptB hbK8); replace K5 := Lib.hid ((K5.out).keptB hbK8); replace HB := Lib.hid (bstep HB.out hbK8); clear hlK8 nK8 hbK8; try simp only [Act.put, List.setIfInBounds_toArray, List.set_cons_zero, List.set_cons_succ]) | (refine big_box rfl 29 _ rfl (#[.int .i64 q1, .int .i64 q2, .int .i64 q3]) rfl (by kernel_rfl) ?_; intro gK5 wK5 hlK5 nK5 hbK5; have K5 := Lib.hid nK5; have LK5 := Lib.hid (Nat.le_trans (HB.out).size hlK5); have OK4K5 := Lib.hid ((K4.out).off hlK5); replace K4 := Lib.hid ((K4.out).keptB hbK5); replace HB := Lib.hid (bstep HB.out hbK5); clear hlK5 nK5 hbK5; try simp only [Act.put, List.setIfInBounds_toArray, List.set_cons_zero, List.set_cons_succ]) | (refine big_box rfl 24 _ rfl (#[.int .u8 c.b0, .int .u8 c.b1, .int .u8 c.b2, .int .u8 c.b3, .int .u8 c.b4, .int .u8 c.b5, .int .u8 c.b6, .int .u8 c.b7]) rfl (by kernel_rfl) ?_; intro gK4 wK4 hlK4 nK4 hbK4; have K4 := Lib.hid nK4; have LK4 := Lib.hid (Nat.le_trans (HB.out).size hlK4); replace HB := Lib.hid (bstep HB.out hbK4); clear hlK4 nK4 hbK4; try simp only [Act.put, List.setIfInBounds_toArray, List.set_cons_zero, List.set_cons_succ]))
  refine bodyPost_ret (v := .agg (rsA (ownN c q1 q2 q3 one two))) (results_cell_row rfl _ _ gK8 _ _ (0, 0) _ rfl K8.out Try.underlying31 rfl (by kernel_rfl)) rfl ⟨rfl, HB.out⟩

end Go.Proofs.Ytcmcgkcljefckaa
