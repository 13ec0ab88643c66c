/- The walks over best's small functions: Better, ByWay, Own, at. -/
import Derived.Test.YtcmcgkcljefckaaBestRef
import Derived.Test.YtcmcgkcljefckaaIntRow
import Derived.Test.YtcmcgkcljefckaaRankComp
import Derived.Deep.DeepCutAuto
import Derived.Deep.LoopGhost
import Derived.WalkMore
namespace Go.Proofs.Ytcmcgkcljefckaa
set_option maxRecDepth 100000
open Go.RowKit
set_option linter.unusedVariables false
set_option linter.unusedSimpArgs false

set_option maxHeartbeats 4000000 in
theorem pbetter9_any (a b : Ch) (w : World) (ha : a.s.ok) (hb : b.s.ok) :
    Calls Try.prog 16 #[.agg (chA a), .agg (chA b)] w fun e w' => e = .returned (.bool (betterB a b)) ∧ Below w.heap.size w w' := by
  have HB := Lib.hid (Below.refl w.heap.size w)
  obtain ⟨s, i⟩ := a
  obtain ⟨t, j⟩ := b
  have OA := Lib.hid ha
  have OB := Lib.hid hb
  clear ha hb
  cases i
  · cases j
    · have HX : Hid (betterB ⟨s, false⟩ ⟨t, false⟩ = false) := by unfold betterB; rfl
      go_enter Try.func16, Try.ntmps16
      go_upto_region 1 with (first | (refine big_box rfl 34 _ rfl (chA ⟨t, false⟩) rfl (by kernel_rfl) ?_; intro gK2 wK2 hlK2 nK2 hbK2; have K2 := Lib.hid nK2; have LK2 := Lib.hid (Nat.le_trans (HB.out).size hlK2); have OK1K2 := Lib.hid ((K1.out).off hlK2); replace K1 := Lib.hid ((K1.out).keptB hbK2); replace HB := Lib.hid (bstep HB.out hbK2); clear hlK2 nK2 hbK2; try simp only [Act.put, List.setIfInBounds_toArray, List.set_cons_zero, List.set_cons_succ]) | (refine big_box rfl 34 _ rfl (chA ⟨s, false⟩) rfl (by kernel_rfl) ?_; intro gK1 wK1 hlK1 nK1 hbK1; have K1 := Lib.hid nK1; have LK1 := Lib.hid (Nat.le_trans (HB.out).size hlK1); replace HB := Lib.hid (bstep HB.out hbK1); clear hlK1 nK1 hbK1; try simp only [Act.put, List.setIfInBounds_toArray, List.set_cons_zero, List.set_cons_succ]))
      have x1 := (K1.out).reads (i := 32) (x := .bool false) rfl
      have x2 := (K2.out).reads (i := 32) (x := .bool false) rfl
      go_wp2
      go_ret
      exact ⟨ret_bool9 HX.out.symm, HB.out⟩
    · have HX : Hid (betterB ⟨s, false⟩ ⟨t, true⟩ = false) := by unfold betterB; rfl
      go_enter Try.func16, Try.ntmps16
      go_upto_region 1 with (first | (refine big_box rfl 34 _ rfl (chA ⟨t, true⟩) rfl (by kernel_rfl) ?_; intro gK2 wK2 hlK2 nK2 hbK2; have K2 := Lib.hid nK2; have LK2 := Lib.hid (Nat.le_trans (HB.out).size hlK2); have OK1K2 := Lib.hid ((K1.out).off hlK2); replace K1 := Lib.hid ((K1.out).keptB hbK2); replace HB := Lib.hid (bstep HB.out hbK2); clear hlK2 nK2 hbK2; try simp only [Act.put, List.setIfInBounds_toArray, List.set_cons_zero, List.set_cons_succ]) | (refine big_box rfl 34 _ rfl (chA ⟨s, false⟩) rfl (by kernel_rfl) ?_; intro gK1 wK1 hlK1 nK1 hbK1; have K1 := Lib.hid nK1; have LK1 := Lib.hid (Nat.le_trans (HB.out).size hlK1); replace HB := Lib.hid (bstep HB.out hbK1); clear hlK1 nK1 hbK1; try simp only [Act.put, List.setIfInBounds_toArray, List.set_cons_zero, List.set_cons_succ]))
      have x1 := (K1.out).reads (i := 32) (x := .bool false) rfl
      have x2 := (K2.out).reads (i := 32) (x := .bool true) rfl
      go_wp2
      go_ret
      exact ⟨ret_bool9 HX.out.symm, HB.out⟩
  · cases j
    · have HX : Hid (betterB ⟨s, true⟩ ⟨t, false⟩ = true) := by unfold betterB; rfl
      go_enter Try.func16, Try.ntmps16
      go_upto_region 1 with (first | (refine big_box rfl 34 _ rfl (chA ⟨t, false⟩) rfl (by kernel_rfl) ?_; intro gK2 wK2 hlK2 nK2 hbK2; have K2 := Lib.hid nK2; have LK2 := Lib.hid (Nat.le_trans (HB.out).size hlK2); have OK1K2 := Lib.hid ((K1.out).off hlK2); replace K1 := Lib.hid ((K1.out).keptB hbK2); replace HB := Lib.hid (bstep HB.out hbK2); clear hlK2 nK2 hbK2; try simp only [Act.put, List.setIfInBounds_toArray, List.set_cons_zero, List.set_cons_succ]) | (refine big_box rfl 34 _ rfl (chA ⟨s, true⟩) rfl (by kernel_rfl) ?_; intro gK1 wK1 hlK1 nK1 hbK1; have K1 := Lib.hid nK1; have LK1 := Lib.hid (Nat.le_trans (HB.out).size hlK1); replace HB := Lib.hid (bstep HB.out hbK1); clear hlK1 nK1 hbK1; try simp only [Act.put, List.setIfInBounds_toArray, List.set_cons_zero, List.set_cons_succ]))
      have x1 := (K1.out).reads (i := 32) (x := .bool true) rfl
      have x2 := (K2.out).reads (i := 32) (x := .bool false) rfl
      go_wp2
      go_ret
      exact ⟨ret_bool9 HX.out.symm, HB.out⟩
    · obtain ⟨r, HL⟩ : ∃ r, Hid (lessB s t = r) := ⟨_, Lib.hid rfl⟩
      have HX : Hid (betterB ⟨s, true⟩ ⟨t, true⟩ = r) := by unfold betterB; rw [Hid]; simp only []; rw [HL.out]; rfl
      go_enter Try.func16, Try.ntmps16
      go_upto_region 1 with (first | (refine big_box rfl 34 _ rfl (chA ⟨t, true⟩) rfl (by kernel_rfl) ?_; intro gK2 wK2 hlK2 nK2 hbK2; have K2 := Lib.hid nK2; have LK2 := Lib.hid (Nat.le_trans (HB.out).size hlK2); have OK1K2 := Lib.hid ((K1.out).off hlK2); replace K1 := Lib.hid ((K1.out).keptB hbK2); replace HB := Lib.hid (bstep HB.out hbK2); clear hlK2 nK2 hbK2; try simp only [Act.put, List.setIfInBounds_toArray, List.set_cons_zero, List.set_cons_succ]) | (refine big_box rfl 34 _ rfl (chA ⟨s, true⟩) rfl (by kernel_rfl) ?_; intro gK1 wK1 hlK1 nK1 hbK1; have K1 := Lib.hid nK1; have LK1 := Lib.hid (Nat.le_trans (HB.out).size hlK1); replace HB := Lib.hid (bstep HB.out hbK1); clear hlK1 nK1 hbK1; try simp only [Act.put, List.setIfInBounds_toArray, List.set_cons_zero, List.set_cons_succ]))
      have x1 := (K1.out).reads (i := 32) (x := .bool true) rfl
      have x2 := (K2.out).reads (i := 32) (x := .bool true) rfl
      go_wp2_with (first | (refine big_load rfl 31 _ rfl gK1 0 rfl K1.out [.int .i64 s.p1, .int .i64 s.p2, .int .i64 s.q1, .int .i64 s.q2, .int .i64 s.q3, .int .u8 s.gr.b0, .int .u8 s.gr.b1, .int .u8 s.gr.b2, .int .u8 s.gr.b3, .int .u8 s.gr.b4, .int .u8 s.gr.b5, .int .u8 s.gr.b6, .int .u8 s.gr.b7, .int .i64 s.st, .int .u8 s.sn.c.b0, .int .u8 s.sn.c.b1, .int .u8 s.sn.c.b2, .int .u8 s.sn.c.b3, .int .u8 s.sn.c.b4, .int .u8 s.sn.c.b5, .int .u8 s.sn.c.b6, .int .u8 s.sn.c.b7, .int .i64 s.sn.n, .int .u8 s.rc.c.b0, .int .u8 s.rc.c.b1, .int .u8 s.rc.c.b2, .int .u8 s.rc.c.b3, .int .u8 s.rc.c.b4, .int .u8 s.rc.c.b5, .int .u8 s.rc.c.b6, .int .u8 s.rc.c.b7, .int .i64 s.rc.n] rfl Try.underlying31 rfl (by kernel_rfl) ?_; try simp only [Act.put, List.setIfInBounds_toArray, List.set_cons_zero, List.set_cons_succ]) | (refine big_load rfl 31 _ rfl gK2 0 rfl K2.out [.int .i64 t.p1, .int .i64 t.p2, .int .i64 t.q1, .int .i64 t.q2, .int .i64 t.q3, .int .u8 t.gr.b0, .int .u8 t.gr.b1, .int .u8 t.gr.b2, .int .u8 t.gr.b3, .int .u8 t.gr.b4, .int .u8 t.gr.b5, .int .u8 t.gr.b6, .int .u8 t.gr.b7, .int .i64 t.st, .int .u8 t.sn.c.b0, .int .u8 t.sn.c.b1, .int .u8 t.sn.c.b2, .int .u8 t.sn.c.b3, .int .u8 t.sn.c.b4, .int .u8 t.sn.c.b5, .int .u8 t.sn.c.b6, .int .u8 t.sn.c.b7, .int .i64 t.sn.n, .int .u8 t.rc.c.b0, .int .u8 t.rc.c.b1, .int .u8 t.rc.c.b2, .int .u8 t.rc.c.b3, .int .u8 t.rc.c.b4, .int .u8 t.rc.c.b5, .int .u8 t.rc.c.b6, .int .u8 t.rc.c.b7, .int .i64 t.rc.n] rfl Try.underlying31 rfl (by kernel_rfl) ?_; try simp only [Act.put, List.setIfInBounds_toArray, List.set_cons_zero, List.set_cons_succ]))
      clear x1 x2
      refine (less7_any s t _ OA.out OB.out).mono ?_
      rintro e c1 ⟨rfl, hc1⟩
      replace K1 := Lib.hid ((K1.out).keptB hc1)
      replace K2 := Lib.hid ((K2.out).keptB hc1)
      replace HB := Lib.hid (bstep HB.out hc1)
      clear hc1
      rw [HL.out]
      go_wp2
      go_ret
      exact ⟨ret_bool9 HX.out.symm, HB.out⟩
set_option maxHeartbeats 4000000 in
theorem pbyway9_any (a b : Ch) (w : World) (ha : a.s.ok) (hb : b.s.ok) :
    Calls Try.prog 18 #[.agg (chA a), .agg (chA b)] w fun e w' => e = .returned (.bool (bywayB a b)) ∧ Below w.heap.size w w' := by
  have HB := Lib.hid (Below.refl w.heap.size w)
  obtain ⟨s, i⟩ := a
  obtain ⟨t, j⟩ := b
  have OA := Lib.hid ha
  have OB := Lib.hid hb
  clear ha hb
  cases i
  · cases j
    · have HX : Hid (bywayB ⟨s, false⟩ ⟨t, false⟩ = false) := by unfold bywayB; rfl
      go_enter Try.func18, Try.ntmps18
      go_upto_region 1 with (first | (refine big_box rfl 34 _ rfl (chA ⟨t, false⟩) rfl (by kernel_rfl) ?_; intro gK2 wK2 hlK2 nK2 hbK2; have K2 := Lib.hid nK2; have LK2 := Lib.hid (Nat.le_trans (HB.out).size hlK2); have OK1K2 := Lib.hid ((K1.out).off hlK2); replace K1 := Lib.hid ((K1.out).keptB hbK2); replace HB := Lib.hid (bstep HB.out hbK2); clear hlK2 nK2 hbK2; try simp only [Act.put, List.setIfInBounds_toArray, List.set_cons_zero, List.set_cons_succ]) | (refine big_box rfl 34 _ rfl (chA ⟨s, false⟩) rfl (by kernel_rfl) ?_; intro gK1 wK1 hlK1 nK1 hbK1; have K1 := Lib.hid nK1; have LK1 := Lib.hid (Nat.le_trans (HB.out).size hlK1); replace HB := Lib.hid (bstep HB.out hbK1); clear hlK1 nK1 hbK1; try simp only [Act.put, List.setIfInBounds_toArray, List.set_cons_zero, List.set_cons_succ]))
      have x1 := (K1.out).reads (i := 32) (x := .bool false) rfl
      have x2 := (K2.out).reads (i := 32) (x := .bool false) rfl
      go_wp2
      go_ret
      exact ⟨ret_bool9 HX.out.symm, HB.out⟩
    · have HX : Hid (bywayB ⟨s, false⟩ ⟨t, true⟩ = false) := by unfold bywayB; rfl
      go_enter Try.func18, Try.ntmps18
      go_upto_region 1 with (first | (refine big_box rfl 34 _ rfl (chA ⟨t, true⟩) rfl (by kernel_rfl) ?_; intro gK2 wK2 hlK2 nK2 hbK2; have K2 := Lib.hid nK2; have LK2 := Lib.hid (Nat.le_trans (HB.out).size hlK2); have OK1K2 := Lib.hid ((K1.out).off hlK2); replace K1 := Lib.hid ((K1.out).keptB hbK2); replace HB := Lib.hid (bstep HB.out hbK2); clear hlK2 nK2 hbK2; try simp only [Act.put, List.setIfInBounds_toArray, List.set_cons_zero, List.set_cons_succ]) | (refine big_box rfl 34 _ rfl (chA ⟨s, false⟩) rfl (by kernel_rfl) ?_; intro gK1 wK1 hlK1 nK1 hbK1; have K1 := Lib.hid nK1; have LK1 := Lib.hid (Nat.le_trans (HB.out).size hlK1); replace HB := Lib.hid (bstep HB.out hbK1); clear hlK1 nK1 hbK1; try simp only [Act.put, List.setIfInBounds_toArray, List.set_cons_zero, List.set_cons_succ]))
      have x1 := (K1.out).reads (i := 32) (x := .bool false) rfl
      have x2 := (K2.out).reads (i := 32) (x := .bool true) rfl
      go_wp2
      go_ret
      exact ⟨ret_bool9 HX.out.symm, HB.out⟩
  · cases j
    · have HX : Hid (bywayB ⟨s, true⟩ ⟨t, false⟩ = false) := by unfold bywayB; rfl
      go_enter Try.func18, Try.ntmps18
      go_upto_region 1 with (first | (refine big_box rfl 34 _ rfl (chA ⟨t, false⟩) rfl (by kernel_rfl) ?_; intro gK2 wK2 hlK2 nK2 hbK2; have K2 := Lib.hid nK2; have LK2 := Lib.hid (Nat.le_trans (HB.out).size hlK2); have OK1K2 := Lib.hid ((K1.out).off hlK2); replace K1 := Lib.hid ((K1.out).keptB hbK2); replace HB := Lib.hid (bstep HB.out hbK2); clear hlK2 nK2 hbK2; try simp only [Act.put, List.setIfInBounds_toArray, List.set_cons_zero, List.set_cons_succ]) | (refine big_box rfl 34 _ rfl (chA ⟨s, true⟩) rfl (by kernel_rfl) ?_; intro gK1 wK1 hlK1 nK1 hbK1; have K1 := Lib.hid nK1; have LK1 := Lib.hid (Nat.le_trans (HB.out).size hlK1); replace HB := Lib.hid (bstep HB.out hbK1); clear hlK1 nK1 hbK1; try simp only [Act.put, List.setIfInBounds_toArray, List.set_cons_zero, List.set_cons_succ]))
      have x1 := (K1.out).reads (i := 32) (x := .bool true) rfl
      have x2 := (K2.out).reads (i := 32) (x := .bool false) rfl
      go_wp2
      go_ret
      exact ⟨ret_bool9 HX.out.symm, HB.out⟩
    · obtain ⟨r, HL⟩ : ∃ r, Hid (compN s t = r) := ⟨_, Lib.hid rfl⟩
      cases hr : (r == 2)
      · have HX : Hid (bywayB ⟨s, true⟩ ⟨t, true⟩ = false) := by unfold bywayB; rw [Hid]; simp only []; rw [HL.out]; rw [hr]; rfl
        go_enter Try.func18, Try.ntmps18
        go_upto_region 1 with (first | (refine big_box rfl 34 _ rfl (chA ⟨t, true⟩) rfl (by kernel_rfl) ?_; intro gK2 wK2 hlK2 nK2 hbK2; have K2 := Lib.hid nK2; have LK2 := Lib.hid (Nat.le_trans (HB.out).size hlK2); have OK1K2 := Lib.hid ((K1.out).off hlK2); replace K1 := Lib.hid ((K1.out).keptB hbK2); replace HB := Lib.hid (bstep HB.out hbK2); clear hlK2 nK2 hbK2; try simp only [Act.put, List.setIfInBounds_toArray, List.set_cons_zero, List.set_cons_succ]) | (refine big_box rfl 34 _ rfl (chA ⟨s, true⟩) rfl (by kernel_rfl) ?_; intro gK1 wK1 hlK1 nK1 hbK1; have K1 := Lib.hid nK1; have LK1 := Lib.hid (Nat.le_trans (HB.out).size hlK1); replace HB := Lib.hid (bstep HB.out hbK1); clear hlK1 nK1 hbK1; try simp only [Act.put, List.setIfInBounds_toArray, List.set_cons_zero, List.set_cons_succ]))
        have x1 := (K1.out).reads (i := 32) (x := .bool true) rfl
        have x2 := (K2.out).reads (i := 32) (x := .bool true) rfl
        go_wp2_with (first | (refine big_load rfl 31 _ rfl gK1 0 rfl K1.out [.int .i64 s.p1, .int .i64 s.p2, .int .i64 s.q1, .int .i64 s.q2, .int .i64 s.q3, .int .u8 s.gr.b0, .int .u8 s.gr.b1, .int .u8 s.gr.b2, .int .u8 s.gr.b3, .int .u8 s.gr.b4, .int .u8 s.gr.b5, .int .u8 s.gr.b6, .int .u8 s.gr.b7, .int .i64 s.st, .int .u8 s.sn.c.b0, .int .u8 s.sn.c.b1, .int .u8 s.sn.c.b2, .int .u8 s.sn.c.b3, .int .u8 s.sn.c.b4, .int .u8 s.sn.c.b5, .int .u8 s.sn.c.b6, .int .u8 s.sn.c.b7, .int .i64 s.sn.n, .int .u8 s.rc.c.b0, .int .u8 s.rc.c.b1, .int .u8 s.rc.c.b2, .int .u8 s.rc.c.b3, .int .u8 s.rc.c.b4, .int .u8 s.rc.c.b5, .int .u8 s.rc.c.b6, .int .u8 s.rc.c.b7, .int .i64 s.rc.n] rfl Try.underlying31 rfl (by kernel_rfl) ?_; try simp only [Act.put, List.setIfInBounds_toArray, List.set_cons_zero, List.set_cons_succ]) | (refine big_load rfl 31 _ rfl gK2 0 rfl K2.out [.int .i64 t.p1, .int .i64 t.p2, .int .i64 t.q1, .int .i64 t.q2, .int .i64 t.q3, .int .u8 t.gr.b0, .int .u8 t.gr.b1, .int .u8 t.gr.b2, .int .u8 t.gr.b3, .int .u8 t.gr.b4, .int .u8 t.gr.b5, .int .u8 t.gr.b6, .int .u8 t.gr.b7, .int .i64 t.st, .int .u8 t.sn.c.b0, .int .u8 t.sn.c.b1, .int .u8 t.sn.c.b2, .int .u8 t.sn.c.b3, .int .u8 t.sn.c.b4, .int .u8 t.sn.c.b5, .int .u8 t.sn.c.b6, .int .u8 t.sn.c.b7, .int .i64 t.sn.n, .int .u8 t.rc.c.b0, .int .u8 t.rc.c.b1, .int .u8 t.rc.c.b2, .int .u8 t.rc.c.b3, .int .u8 t.rc.c.b4, .int .u8 t.rc.c.b5, .int .u8 t.rc.c.b6, .int .u8 t.rc.c.b7, .int .i64 t.rc.n] rfl Try.underlying31 rfl (by kernel_rfl) ?_; try simp only [Act.put, List.setIfInBounds_toArray, List.set_cons_zero, List.set_cons_succ]))
        clear x1 x2
        refine (comp7_any s t _ OA.out OB.out).mono ?_
        rintro e c1 ⟨rfl, hc1⟩
        replace K1 := Lib.hid ((K1.out).keptB hc1)
        replace K2 := Lib.hid ((K2.out).keptB hc1)
        replace HB := Lib.hid (bstep HB.out hc1)
        clear hc1
        rw [HL.out]
        go_wp2
        go_ret
        exact ⟨ret_bool9 HX.out.symm, HB.out⟩
      · have HX : Hid (bywayB ⟨s, true⟩ ⟨t, true⟩ = true) := by unfold bywayB; rw [Hid]; simp only []; rw [HL.out]; rw [hr]; rfl
        go_enter Try.func18, Try.ntmps18
        go_upto_region 1 with (first | (refine big_box rfl 34 _ rfl (chA ⟨t, true⟩) rfl (by kernel_rfl) ?_; intro gK2 wK2 hlK2 nK2 hbK2; have K2 := Lib.hid nK2; have LK2 := Lib.hid (Nat.le_trans (HB.out).size hlK2); have OK1K2 := Lib.hid ((K1.out).off hlK2); replace K1 := Lib.hid ((K1.out).keptB hbK2); replace HB := Lib.hid (bstep HB.out hbK2); clear hlK2 nK2 hbK2; try simp only [Act.put, List.setIfInBounds_toArray, List.set_cons_zero, List.set_cons_succ]) | (refine big_box rfl 34 _ rfl (chA ⟨s, true⟩) rfl (by kernel_rfl) ?_; intro gK1 wK1 hlK1 nK1 hbK1; have K1 := Lib.hid nK1; have LK1 := Lib.hid (Nat.le_trans (HB.out).size hlK1); replace HB := Lib.hid (bstep HB.out hbK1); clear hlK1 nK1 hbK1; try simp only [Act.put, List.setIfInBounds_toArray, List.set_cons_zero, List.set_cons_succ]))
        have x1 := (K1.out).reads (i := 32) (x := .bool true) rfl
        have x2 := (K2.out).reads (i := 32) (x := .bool true) rfl
        go_wp2_with (first | (refine big_load rfl 31 _ rfl gK1 0 rfl K1.out [.int .i64 s.p1, .int .i64 s.p2, .int .i64 s.q1, .int .i64 s.q2, .int .i64 s.q3, .int .u8 s.gr.b0, .int .u8 s.gr.b1, .int .u8 s.gr.b2, .int .u8 s.gr.b3, .int .u8 s.gr.b4, .int .u8 s.gr.b5, .int .u8 s.gr.b6, .int .u8 s.gr.b7, .int .i64 s.st, .int .u8 s.sn.c.b0, .int .u8 s.sn.c.b1, .int .u8 s.sn.c.b2, .int .u8 s.sn.c.b3, .int .u8 s.sn.c.b4, .int .u8 s.sn.c.b5, .int .u8 s.sn.c.b6, .int .u8 s.sn.c.b7, .int .i64 s.sn.n, .int .u8 s.rc.c.b0, .int .u8 s.rc.c.b1, .int .u8 s.rc.c.b2, .int .u8 s.rc.c.b3, .int .u8 s.rc.c.b4, .int .u8 s.rc.c.b5, .int .u8 s.rc.c.b6, .int .u8 s.rc.c.b7, .int .i64 s.rc.n] rfl Try.underlying31 rfl (by kernel_rfl) ?_; try simp only [Act.put, List.setIfInBounds_toArray, List.set_cons_zero, List.set_cons_succ]) | (refine big_load rfl 31 _ rfl gK2 0 rfl K2.out [.int .i64 t.p1, .int .i64 t.p2, .int .i64 t.q1, .int .i64 t.q2, .int .i64 t.q3, .int .u8 t.gr.b0, .int .u8 t.gr.b1, .int .u8 t.gr.b2, .int .u8 t.gr.b3, .int .u8 t.gr.b4, .int .u8 t.gr.b5, .int .u8 t.gr.b6, .int .u8 t.gr.b7, .int .i64 t.st, .int .u8 t.sn.c.b0, .int .u8 t.sn.c.b1, .int .u8 t.sn.c.b2, .int .u8 t.sn.c.b3, .int .u8 t.sn.c.b4, .int .u8 t.sn.c.b5, .int .u8 t.sn.c.b6, .int .u8 t.sn.c.b7, .int .i64 t.sn.n, .int .u8 t.rc.c.b0, .int .u8 t.rc.c.b1, .int .u8 t.rc.c.b2, .int .u8 t.rc.c.b3, .int .u8 t.rc.c.b4, .int .u8 t.rc.c.b5, .int .u8 t.rc.c.b6, .int .u8 t.rc.c.b7, .int .i64 t.rc.n] rfl Try.underlying31 rfl (by kernel_rfl) ?_; try simp only [Act.put, List.setIfInBounds_toArray, List.set_cons_zero, List.set_cons_succ]))
        clear x1 x2
        refine (comp7_any s t _ OA.out OB.out).mono ?_
        rintro e c1 ⟨rfl, hc1⟩
        replace K1 := Lib.hid ((K1.out).keptB hc1)
        replace K2 := Lib.hid ((K2.out).keptB hc1)
        replace HB := Lib.hid (bstep HB.out hc1)
        clear hc1
        rw [HL.out]
        go_wp2
        go_ret
        exact ⟨ret_bool9 HX.out.symm, HB.out⟩
def zP9 : Pt := ⟨⟨0, 0, 0, 0, 0, 0, 0, 0⟩, 0⟩
set_option maxHeartbeats 4000000 in
theorem pown9_any (c : Ck) (q1 q2 q3 one two : Int) (w : World) :
    Calls Try.prog 15 #[.agg #[.int .u8 c.b0, .int .u8 c.b1, .int .u8 c.b2, .int .u8 c.b3, .int .u8 c.b4, .int .u8 c.b5, .int .u8 c.b6, .int .u8 c.b7], .agg #[.int .i64 q1, .int .i64 q2, .int .i64 q3], .int .i64 one, .int .i64 two] w fun e w' => e = .returned (.agg (rsA (ownN c q1 q2 q3 one two))) ∧ Below w.heap.size w w' := by
  have HB := Lib.hid (Below.refl w.heap.size w)
  go_enter Try.func15, Try.ntmps15
  go_upto_region 1 with (first | (refine big_alloc rfl 31 rfl (rsA zeroR) (by kernel_rfl) ?_; intro gK8 wK8 hlK8 nK8 hbK8; have K8 := Lib.hid nK8; have LK8 := Lib.hid (Nat.le_trans (HB.out).size hlK8); have OK4K8 := Lib.hid ((K4.out).off hlK8); have OK5K8 := Lib.hid ((K5.out).off hlK8); replace K4 := Lib.hid ((K4.out).keptB hbK8); replace K5 := Lib.hid ((K5.out).keptB hbK8); replace HB := Lib.hid (bstep HB.out hbK8); clear hlK8 nK8 hbK8; try simp only [Act.put, List.setIfInBounds_toArray, List.set_cons_zero, List.set_cons_succ]) | (refine big_box rfl 29 _ rfl (#[.int .i64 q1, .int .i64 q2, .int .i64 q3]) rfl (by kernel_rfl) ?_; intro gK5 wK5 hlK5 nK5 hbK5; have K5 := Lib.hid nK5; have LK5 := Lib.hid (Nat.le_trans (HB.out).size hlK5); have OK4K5 := Lib.hid ((K4.out).off hlK5); replace K4 := Lib.hid ((K4.out).keptB hbK5); replace HB := Lib.hid (bstep HB.out hbK5); clear hlK5 nK5 hbK5; try simp only [Act.put, List.setIfInBounds_toArray, List.set_cons_zero, List.set_cons_succ]) | (refine big_box rfl 24 _ rfl (#[.int .u8 c.b0, .int .u8 c.b1, .int .u8 c.b2, .int .u8 c.b3, .int .u8 c.b4, .int .u8 c.b5, .int .u8 c.b6, .int .u8 c.b7]) rfl (by kernel_rfl) ?_; intro gK4 wK4 hlK4 nK4 hbK4; have K4 := Lib.hid nK4; have LK4 := Lib.hid (Nat.le_trans (HB.out).size hlK4); replace HB := Lib.hid (bstep HB.out hbK4); clear hlK4 nK4 hbK4; try simp only [Act.put, List.setIfInBounds_toArray, List.set_cons_zero, List.set_cons_succ]))
  go_upto_region 2 with (first | (refine big_fill rfl 26 _ _ rfl gK9 (ptA ⟨c, 0⟩) rfl rfl K9.out (by kernel_rfl) (by kernel_rfl) (by kernel_rfl) ?_; intro vK90 nK9 htK9; replace K9 := Lib.hid nK9; replace K4 := Lib.hid ((K4.out).touch htK9 OK4K9.out); replace K5 := Lib.hid ((K5.out).touch htK9 OK5K9.out); replace K8 := Lib.hid ((K8.out).touch htK9 OK8K9.out); replace HB := Lib.hid (btouch HB.out htK9 LK9.out); clear nK9 htK9; try simp only [Act.put, List.setIfInBounds_toArray, List.set_cons_zero, List.set_cons_succ]) | (refine big_alloc rfl 26 rfl (ptA zP9) (by kernel_rfl) ?_; intro gK9 wK9 hlK9 nK9 hbK9; have K9 := Lib.hid nK9; have LK9 := Lib.hid (Nat.le_trans (HB.out).size hlK9); have OK4K9 := Lib.hid ((K4.out).off hlK9); have OK5K9 := Lib.hid ((K5.out).off hlK9); have OK8K9 := Lib.hid ((K8.out).off hlK9); replace K4 := Lib.hid ((K4.out).keptB hbK9); replace K5 := Lib.hid ((K5.out).keptB hbK9); replace K8 := Lib.hid ((K8.out).keptB hbK9); replace HB := Lib.hid (bstep HB.out hbK9); clear hlK9 nK9 hbK9; try simp only [Act.put, List.setIfInBounds_toArray, List.set_cons_zero, List.set_cons_succ]) | (refine big_build rfl 26 _ rfl (ptA ⟨c, 0⟩) (by kernel_rfl) ?_; try simp only [Act.put, List.setIfInBounds_toArray, List.set_cons_zero, List.set_cons_succ]) | (refine big_load rfl 24 _ rfl gK4 0 rfl K4.out [.int .u8 c.b0, .int .u8 c.b1, .int .u8 c.b2, .int .u8 c.b3, .int .u8 c.b4, .int .u8 c.b5, .int .u8 c.b6, .int .u8 c.b7] rfl Try.underlying24 rfl (by kernel_rfl) ?_; try simp only [Act.put, List.setIfInBounds_toArray, List.set_cons_zero, List.set_cons_succ]))
  go_wp2_with (first | (refine big_fill rfl 31 _ _ rfl gK8 (rsA (ownN c q1 q2 q3 one two)) rfl rfl K8.out (by kernel_rfl) (by kernel_rfl) (by kernel_rfl) ?_; intro vK80 nK8 htK8; replace K8 := Lib.hid nK8; replace K4 := Lib.hid ((K4.out).touch htK8 OK4K8.out); replace K5 := Lib.hid ((K5.out).touch htK8 OK5K8.out); replace K9 := Lib.hid ((K9.out).touch htK8 (Ne.symm OK8K9.out)); replace HB := Lib.hid (btouch HB.out htK8 LK8.out); clear nK8 htK8; try simp only [Act.put, List.setIfInBounds_toArray, List.set_cons_zero, List.set_cons_succ]) | (refine big_build rfl 31 _ rfl (rsA (ownN c q1 q2 q3 one two)) (by kernel_rfl) ?_; try simp only [Act.put, List.setIfInBounds_toArray, List.set_cons_zero, List.set_cons_succ]) | (refine big_whole rfl 26 _ rfl gK9 rfl K9.out Try.underlying26 rfl (by kernel_rfl) ?_; try simp only [Act.put, List.setIfInBounds_toArray, List.set_cons_zero, List.set_cons_succ]) | (refine big_load rfl 24 _ rfl gK4 0 rfl K4.out [.int .u8 c.b0, .int .u8 c.b1, .int .u8 c.b2, .int .u8 c.b3, .int .u8 c.b4, .int .u8 c.b5, .int .u8 c.b6, .int .u8 c.b7] rfl Try.underlying24 rfl (by kernel_rfl) ?_; try simp only [Act.put, List.setIfInBounds_toArray, List.set_cons_zero, List.set_cons_succ]) | (refine big_load rfl 29 _ rfl gK5 0 rfl K5.out [.int .i64 q1, .int .i64 q2, .int .i64 q3] rfl Try.underlying29 rfl (by kernel_rfl) ?_; try simp only [Act.put, List.setIfInBounds_toArray, List.set_cons_zero, List.set_cons_succ]))
  refine bodyPost_ret (v := .agg (rsA (ownN c q1 q2 q3 one two))) (results_cell_row rfl _ _ gK8 _ _ (0, 0) _ rfl K8.out Try.underlying31 rfl (by kernel_rfl)) rfl ⟨rfl, HB.out⟩
set_option maxHeartbeats 4000000 in
theorem at9_no (A : Option Addr) (n c : Nat) (k : Int) (w : World) (hk : k < 0) :
    Calls Try.prog 24 #[.slice A n c, .int .i64 k] w fun e w' => e = .returned (.tuple #[.agg (rsA zeroR), .bool false]) ∧ Below w.heap.size w w' := by
  have HB := Lib.hid (Below.refl w.heap.size w)
  go_enter Try.func24, Try.ntmps24
  go_upto_region 1 with ((refine big_alloc rfl 31 rfl (rsA zeroR) (by kernel_rfl) ?_; intro gK4 wK4 hlK4 nK4 hbK4; have K4 := Lib.hid nK4; have LK4 := Lib.hid (Nat.le_trans (HB.out).size hlK4); replace HB := Lib.hid (bstep HB.out hbK4); clear hlK4 nK4 hbK4; try simp only [Act.put, List.setIfInBounds_toArray, List.set_cons_zero, List.set_cons_succ]))
  have hd : decide (k < 0) = true := decide_eq_true hk
  go_wp2_with (first | (refine big_fill rfl 31 _ _ rfl gK4 (rsA zeroR) rfl rfl K4.out (by kernel_rfl) (by kernel_rfl) (by kernel_rfl) ?_; intro vK40 nK4 htK4; replace K4 := Lib.hid nK4; replace K6 := Lib.hid ((K6.out).touch htK4 (Ne.symm OK4K6.out)); replace HB := Lib.hid (btouch HB.out htK4 LK4.out); clear nK4 htK4; try simp only [Act.put, List.setIfInBounds_toArray, List.set_cons_zero, List.set_cons_succ]) | (refine big_whole rfl 31 _ rfl gK6 rfl K6.out Try.underlying31 rfl (by kernel_rfl) ?_; try simp only [Act.put, List.setIfInBounds_toArray, List.set_cons_zero, List.set_cons_succ]) | (refine big_alloc rfl 31 rfl (rsA zeroR) (by kernel_rfl) ?_; intro gK6 wK6 hlK6 nK6 hbK6; have K6 := Lib.hid nK6; have LK6 := Lib.hid (Nat.le_trans (HB.out).size hlK6); have OK4K6 := Lib.hid ((K4.out).off hlK6); replace K4 := Lib.hid ((K4.out).keptB hbK6); replace HB := Lib.hid (bstep HB.out hbK6); clear hlK6 nK6 hbK6; try simp only [Act.put, List.setIfInBounds_toArray, List.set_cons_zero, List.set_cons_succ]))
  refine bodyPost_ret (results_two rfl _ _ gK4 _ (rsA zeroR) (.bool false) _ rfl rfl K4.out Try.underlying31 rfl (by kernel_rfl)) rfl ⟨rfl, HB.out⟩
set_option maxHeartbeats 4000000 in
theorem at9_yes (g o n c k : Nat) (l : List Rs) (a : Rs) (w : World) (ha : l[k]? = some a) (h : SetsIn w (.slice (some ⟨g, o, none⟩) n c) l) :
    Calls Try.prog 24 #[.slice (some ⟨g, o, none⟩) n c, .int .i64 k] w fun e w' => e = .returned (.tuple #[.agg (rsA a), .bool true]) ∧ Below w.heap.size w w' := by
  have HB := Lib.hid (Below.refl w.heap.size w)
  have SI := Lib.hid h
  clear h
  have HA := Lib.hid ha
  have HK : Hid (k < n) := by
    obtain ⟨_, _, _, h1, h2, _⟩ := SI.out
    cases h1
    have := (List.getElem?_eq_some_iff.1 ha).1
    rw [Hid]; omega
  clear ha
  go_enter Try.func24, Try.ntmps24
  go_upto_region 1 with ((refine big_alloc rfl 31 rfl (rsA zeroR) (by kernel_rfl) ?_; intro gK4 wK4 hlK4 nK4 hbK4; have K4 := Lib.hid nK4; have LK4 := Lib.hid (Nat.le_trans (HB.out).size hlK4); have OSIK4 := Lib.hid ((SI.out).off hlK4); replace SI := Lib.hid ((SI.out).keptB hbK4); replace HB := Lib.hid (bstep HB.out hbK4); clear hlK4 nK4 hbK4; try simp only [Act.put, List.setIfInBounds_toArray, List.set_cons_zero, List.set_cons_succ]))
  have hd : decide ((k : Int) < 0) = false := decide_eq_false (by omega)
  go_wp2_with (first | (refine big_fill rfl 31 _ _ rfl gK4 (rsA a) rfl rfl K4.out (by kernel_rfl) (by kernel_rfl) (by kernel_rfl) ?_; intro vK40 nK4 htK4; replace K4 := Lib.hid nK4; replace SI := Lib.hid ((SI.out).touch htK4 OSIK4.out); replace HB := Lib.hid (btouch HB.out htK4 LK4.out); clear nK4 htK4; try simp only [Act.put, List.setIfInBounds_toArray, List.set_cons_zero, List.set_cons_succ]) | (refine big_loadAt rfl 31 _ rfl g (o + k * 32) rfl (rsA a) (set_in SI.out HA.out) Try.underlying31 rfl (by kernel_rfl) ?_; try simp only [Act.put, List.setIfInBounds_toArray, List.set_cons_zero, List.set_cons_succ]) | (refine big_index rfl 22 _ _ rfl g o n c k 32 rfl rfl HK.out Try.underlying22 (by kernel_rfl) ?_; try simp only [Act.put, List.setIfInBounds_toArray, List.set_cons_zero, List.set_cons_succ]))
  refine bodyPost_ret (results_two rfl _ _ gK4 _ (rsA a) (.bool true) _ rfl rfl K4.out Try.underlying31 rfl (by kernel_rfl)) rfl ⟨rfl, HB.out⟩
set_option maxHeartbeats 4000000 in
theorem ati9_no (A : Option Addr) (n c : Nat) (k : Int) (w : World) (hk : k < 0) :
    Calls Try.prog 26 #[.slice A n c, .int .i64 k] w fun e w' => e = .returned (.tuple #[.int .i64 0, .bool false]) ∧ Below w.heap.size w w' := by
  have HB := Lib.hid (Below.refl w.heap.size w)
  go_enter Try.func26, Try.ntmps26
  have hd : decide (k < 0) = true := decide_eq_true hk
  go_wp2
  go_ret2
  exact ⟨rfl, HB.out⟩
set_option maxHeartbeats 4000000 in
theorem ati9_yes (g o n c k : Nat) (l : List Int) (a : Int) (w : World) (ha : l[k]? = some a) (h : NumIn w (.slice (some ⟨g, o, none⟩) n c) l) :
    Calls Try.prog 26 #[.slice (some ⟨g, o, none⟩) n c, .int .i64 k] w fun e w' => e = .returned (.tuple #[.int .i64 a, .bool true]) ∧ Below w.heap.size w w' := by
  have HB := Lib.hid (Below.refl w.heap.size w)
  have xs := num_in h ha
  have HK : Hid (k < n) := by
    obtain ⟨_, _, _, h1, h2, _⟩ := h
    cases h1
    have := (List.getElem?_eq_some_iff.1 ha).1
    rw [Hid]; omega
  clear ha h
  go_enter Try.func26, Try.ntmps26
  have hd : decide ((k : Int) < 0) = false := decide_eq_false (by omega)
  go_wp2_with ((refine big_index rfl 58 _ _ rfl g o n c k 1 rfl rfl HK.out Try.underlying58 (by kernel_rfl) ?_; try simp only [Act.put, List.setIfInBounds_toArray, List.set_cons_zero, List.set_cons_succ]))
  go_ret2
  exact ⟨rfl, HB.out⟩

end Go.Proofs.Ytcmcgkcljefckaa
