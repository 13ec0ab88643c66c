/- Ways of the walk over the reference's Right of layer 6. -/
import Derived.Test.YtifhjmhekapaoaaDoorFrameRefRight
namespace Go.Proofs.YtifhjmhekapaoaaDoor
set_option maxRecDepth 100000
open Go.RowKit
set_option linter.unusedVariables false

set_option maxHeartbeats 4000000 in
theorem rr_h (m : Ms) (w : World) (hh : m.h.right = false) :
    Calls Tryd.prog 14 #[.agg (msA m)] w fun e w' => e = .returned (.bool m.right) ∧ Below w.heap.size w w' := by
  have HB := Lib.hid (Below.refl w.heap.size w)
  have HX := Lib.hid (show m.right = false by rw [right_ref]; unfold refR; simp [hh])
  have HH := Lib.hid hh
  clear hh
  go_enter Tryd.func14, Tryd.ntmps14
  go_wp2_with (first | (refine ld_ 32 _ rfl rfl gK1 0 rfl K1.out [.int .i64 m.h.t, .int .i64 m.h.d, .int .i64 m.h.f, .int .i64 m.h.c, .int .u8 m.h.p.c.b0, .int .u8 m.h.p.c.b1, .int .u8 m.h.p.c.b2, .int .u8 m.h.p.c.b3, .int .u8 m.h.p.c.b4, .int .u8 m.h.p.c.b5, .int .u8 m.h.p.c.b6, .int .u8 m.h.p.c.b7, .int .i64 m.h.p.n, .int .i64 m.h.s, .int .i64 m.h.l] rfl Tryd.underlying32 rfl (by kernel_rfl) ?_; try simp only [Act.put, List.setIfInBounds_toArray, List.set_cons_zero, List.set_cons_succ]) | (refine big_box rfl 44 _ rfl (msA m) rfl (by kernel_rfl) ?_; intro gK1 wK1 hlK1 nK1 hbK1; replace HB := Lib.hid (bstep HB.out hbK1); have K1 := Lib.hid nK1; clear hlK1 nK1 hbK1))
  refine (rright5_any m.h _).mono ?_
  rintro e c1 ⟨rfl, hc1⟩
  replace K1 := Lib.hid ((K1.out).keptB hc1)
  replace HB := Lib.hid (bstep HB.out hc1)
  clear hc1
  rw [HH.out]
  go_wp2
  go_ret
  exact ⟨ret_bool' HX.out.symm, HB.out⟩
set_option maxHeartbeats 4000000 in
theorem rr_t (m : Ms) (w : World) (hh : m.h.right = true) (ht : rightB m.ts m.tn = false) :
    Calls Tryd.prog 14 #[.agg (msA m)] w fun e w' => e = .returned (.bool m.right) ∧ Below w.heap.size w w' := by
  have HB := Lib.hid (Below.refl w.heap.size w)
  have HX := Lib.hid (show m.right = false by rw [right_ref]; unfold refR; simp [hh, ht])
  have HH := Lib.hid hh
  have HT := Lib.hid ht
  clear hh ht
  go_enter Tryd.func14, Tryd.ntmps14
  go_wp2_with (first | (refine ld_ 32 _ rfl rfl gK1 0 rfl K1.out [.int .i64 m.h.t, .int .i64 m.h.d, .int .i64 m.h.f, .int .i64 m.h.c, .int .u8 m.h.p.c.b0, .int .u8 m.h.p.c.b1, .int .u8 m.h.p.c.b2, .int .u8 m.h.p.c.b3, .int .u8 m.h.p.c.b4, .int .u8 m.h.p.c.b5, .int .u8 m.h.p.c.b6, .int .u8 m.h.p.c.b7, .int .i64 m.h.p.n, .int .i64 m.h.s, .int .i64 m.h.l] rfl Tryd.underlying32 rfl (by kernel_rfl) ?_; try simp only [Act.put, List.setIfInBounds_toArray, List.set_cons_zero, List.set_cons_succ]) | (refine big_box rfl 44 _ rfl (msA m) rfl (by kernel_rfl) ?_; intro gK1 wK1 hlK1 nK1 hbK1; replace HB := Lib.hid (bstep HB.out hbK1); have K1 := Lib.hid nK1; clear hlK1 nK1 hbK1))
  refine (rright5_any m.h _).mono ?_
  rintro e c1 ⟨rfl, hc1⟩
  replace K1 := Lib.hid ((K1.out).keptB hc1)
  replace HB := Lib.hid (bstep HB.out hc1)
  clear hc1
  rw [HH.out]
  go_wp2_with ((refine ld_ 38 _ rfl rfl gK1 15 rfl K1.out [.int .i64 m.ts, .int .i64 m.tn] rfl Tryd.underlying38 rfl (by kernel_rfl) ?_; try simp only [Act.put, List.setIfInBounds_toArray, List.set_cons_zero, List.set_cons_succ]))
  refine (rright_any m.ts m.tn _).mono ?_
  rintro e c2 ⟨rfl, hc2⟩
  replace K1 := Lib.hid ((K1.out).keptB hc2)
  replace HB := Lib.hid (bstep HB.out hc2)
  clear hc2
  rw [HT.out]
  go_wp2
  go_ret
  exact ⟨ret_bool' HX.out.symm, HB.out⟩
set_option maxHeartbeats 4000000 in
theorem rr_9l (m : Ms) (w : World) (hh : m.h.right = true) (ht : rightB m.ts m.tn = true) (h9 : m.h.t = 9) (c : inB m.ak.n 1 65534 = false) (c1 : m.ak.n < 1) :
    Calls Tryd.prog 14 #[.agg (msA m)] w fun e w' => e = .returned (.bool m.right) ∧ Below w.heap.size w w' := by
  have HB := Lib.hid (Below.refl w.heap.size w)
  have HX := Lib.hid (show m.right = false by rw [right_ref]; unfold refR annR restR; simp [hh, ht, h9, c])
  have HH := Lib.hid hh
  have HT := Lib.hid ht
  have d9 : (m.h.t == 9) = true := by simp [h9]
  have d9b : (m.h.t != 9) = false := by simp [h9]
  have k1 : decide (m.ak.n < 1) = true := by simp; omega
  clear hh ht h9 c c1
  go_enter Tryd.func14, Tryd.ntmps14
  go_wp2_with (first | (refine ld_ 32 _ rfl rfl gK1 0 rfl K1.out [.int .i64 m.h.t, .int .i64 m.h.d, .int .i64 m.h.f, .int .i64 m.h.c, .int .u8 m.h.p.c.b0, .int .u8 m.h.p.c.b1, .int .u8 m.h.p.c.b2, .int .u8 m.h.p.c.b3, .int .u8 m.h.p.c.b4, .int .u8 m.h.p.c.b5, .int .u8 m.h.p.c.b6, .int .u8 m.h.p.c.b7, .int .i64 m.h.p.n, .int .i64 m.h.s, .int .i64 m.h.l] rfl Tryd.underlying32 rfl (by kernel_rfl) ?_; try simp only [Act.put, List.setIfInBounds_toArray, List.set_cons_zero, List.set_cons_succ]) | (refine big_box rfl 44 _ rfl (msA m) rfl (by kernel_rfl) ?_; intro gK1 wK1 hlK1 nK1 hbK1; replace HB := Lib.hid (bstep HB.out hbK1); have K1 := Lib.hid nK1; clear hlK1 nK1 hbK1))
  refine (rright5_any m.h _).mono ?_
  rintro e c1 ⟨rfl, hc1⟩
  replace K1 := Lib.hid ((K1.out).keptB hc1)
  replace HB := Lib.hid (bstep HB.out hc1)
  clear hc1
  rw [HH.out]
  go_wp2_with ((refine ld_ 38 _ rfl rfl gK1 15 rfl K1.out [.int .i64 m.ts, .int .i64 m.tn] rfl Tryd.underlying38 rfl (by kernel_rfl) ?_; try simp only [Act.put, List.setIfInBounds_toArray, List.set_cons_zero, List.set_cons_succ]))
  refine (rright_any m.ts m.tn _).mono ?_
  rintro e c2 ⟨rfl, hc2⟩
  replace K1 := Lib.hid ((K1.out).keptB hc2)
  replace HB := Lib.hid (bstep HB.out hc2)
  clear hc2
  rw [HT.out]
  go_wp2_with (first | (refine ld_ 26 _ rfl rfl gK1 17 rfl K1.out [.int .u8 m.ak.c.b0, .int .u8 m.ak.c.b1, .int .u8 m.ak.c.b2, .int .u8 m.ak.c.b3, .int .u8 m.ak.c.b4, .int .u8 m.ak.c.b5, .int .u8 m.ak.c.b6, .int .u8 m.ak.c.b7, .int .i64 m.ak.n] rfl Tryd.underlying26 rfl (by kernel_rfl) ?_; try simp only [Act.put, List.setIfInBounds_toArray, List.set_cons_zero, List.set_cons_succ]) | (refine ld_ 26 _ rfl rfl gK1 4 rfl K1.out [.int .u8 m.h.p.c.b0, .int .u8 m.h.p.c.b1, .int .u8 m.h.p.c.b2, .int .u8 m.h.p.c.b3, .int .u8 m.h.p.c.b4, .int .u8 m.h.p.c.b5, .int .u8 m.h.p.c.b6, .int .u8 m.h.p.c.b7, .int .i64 m.h.p.n] rfl Tryd.underlying26 rfl (by kernel_rfl) ?_; try simp only [Act.put, List.setIfInBounds_toArray, List.set_cons_zero, List.set_cons_succ]) | (refine ld_ 26 _ rfl rfl gK3 14 rfl K3.out [.int .u8 m.sn.c.b0, .int .u8 m.sn.c.b1, .int .u8 m.sn.c.b2, .int .u8 m.sn.c.b3, .int .u8 m.sn.c.b4, .int .u8 m.sn.c.b5, .int .u8 m.sn.c.b6, .int .u8 m.sn.c.b7, .int .i64 m.sn.n] rfl Tryd.underlying26 rfl (by kernel_rfl) ?_; try simp only [Act.put, List.setIfInBounds_toArray, List.set_cons_zero, List.set_cons_succ]) | (refine ld_ 26 _ rfl rfl gK3 23 rfl K3.out [.int .u8 m.rc.c.b0, .int .u8 m.rc.c.b1, .int .u8 m.rc.c.b2, .int .u8 m.rc.c.b3, .int .u8 m.rc.c.b4, .int .u8 m.rc.c.b5, .int .u8 m.rc.c.b6, .int .u8 m.rc.c.b7, .int .i64 m.rc.n] rfl Tryd.underlying26 rfl (by kernel_rfl) ?_; try simp only [Act.put, List.setIfInBounds_toArray, List.set_cons_zero, List.set_cons_succ]) | (refine ld_ 24 _ rfl rfl gK3 5 rfl K3.out [.int .u8 m.gr.b0, .int .u8 m.gr.b1, .int .u8 m.gr.b2, .int .u8 m.gr.b3, .int .u8 m.gr.b4, .int .u8 m.gr.b5, .int .u8 m.gr.b6, .int .u8 m.gr.b7] rfl Tryd.underlying24 rfl (by kernel_rfl) ?_; try simp only [Act.put, List.setIfInBounds_toArray, List.set_cons_zero, List.set_cons_succ]) | (refine wh_ 42 _ rfl rfl gK3 rfl K3.out Tryd.underlying42 rfl (by kernel_rfl) ?_; try simp only [Act.put, List.setIfInBounds_toArray, List.set_cons_zero, List.set_cons_succ]) | (refine bu_ 26 _ rfl rfl (#[.int .u8 0, .int .u8 0, .int .u8 0, .int .u8 0, .int .u8 0, .int .u8 0, .int .u8 0, .int .u8 0, .int .i64 0]) (by kernel_rfl) ?_; try simp only [Act.put, List.setIfInBounds_toArray, List.set_cons_zero, List.set_cons_succ]) | (refine bu_ 24 _ rfl rfl (#[.int .u8 0, .int .u8 0, .int .u8 0, .int .u8 0, .int .u8 0, .int .u8 0, .int .u8 0, .int .u8 0]) (by kernel_rfl) ?_; try simp only [Act.put, List.setIfInBounds_toArray, List.set_cons_zero, List.set_cons_succ]) | (refine bu_ 42 _ rfl rfl (#[.int .i64 0, .int .i64 0, .int .i64 0, .int .i64 0, .int .i64 0, .int .u8 0, .int .u8 0, .int .u8 0, .int .u8 0, .int .u8 0, .int .u8 0, .int .u8 0, .int .u8 0, .int .i64 0, .int .u8 0, .int .u8 0, .int .u8 0, .int .u8 0, .int .u8 0, .int .u8 0, .int .u8 0, .int .u8 0, .int .i64 0, .int .u8 0, .int .u8 0, .int .u8 0, .int .u8 0, .int .u8 0, .int .u8 0, .int .u8 0, .int .u8 0, .int .i64 0]) (by kernel_rfl) ?_; try simp only [Act.put, List.setIfInBounds_toArray, List.set_cons_zero, List.set_cons_succ]) | (refine big_fill rfl 42 _ _ rfl gK3 (setA m) rfl rfl K3.out (by kernel_rfl) (by kernel_rfl) (by kernel_rfl) ?_; intro vK3 nK3 tK3; have hbK3 := btouch AK3.out tK3 LK3.out; replace K1 := Lib.hid ((K1.out).keptB hbK3); replace HB := Lib.hid (bstep HB.out hbK3); replace K3 := Lib.hid nK3; clear nK3 tK3 hbK3 AK3 LK3; have x0 := (K1.out).reads (i := 0) (x := .int .i64 m.h.t) rfl; have x25 := (K1.out).reads (i := 25) (x := .int .i64 m.ak.n) rfl; have x26 := (K1.out).reads (i := 26) (x := .int .i64 m.o) rfl; have x59 := (K1.out).reads (i := 59) (x := .int .i64 m.src) rfl; have y0 := (K3.out).reads (i := 0) (x := .int .i64 m.p1) rfl; have y1 := (K3.out).reads (i := 1) (x := .int .i64 m.p2) rfl; have y2 := (K3.out).reads (i := 2) (x := .int .i64 m.q1) rfl; have y3 := (K3.out).reads (i := 3) (x := .int .i64 m.q2) rfl; have y4 := (K3.out).reads (i := 4) (x := .int .i64 m.q3) rfl; have y13 := (K3.out).reads (i := 13) (x := .int .i64 m.st) rfl) | (refine big_alloc rfl 42 rfl (#[.int .i64 0, .int .i64 0, .int .i64 0, .int .i64 0, .int .i64 0, .int .u8 0, .int .u8 0, .int .u8 0, .int .u8 0, .int .u8 0, .int .u8 0, .int .u8 0, .int .u8 0, .int .i64 0, .int .u8 0, .int .u8 0, .int .u8 0, .int .u8 0, .int .u8 0, .int .u8 0, .int .u8 0, .int .u8 0, .int .i64 0, .int .u8 0, .int .u8 0, .int .u8 0, .int .u8 0, .int .u8 0, .int .u8 0, .int .u8 0, .int .u8 0, .int .i64 0]) (by kernel_rfl) ?_; intro gK3 wK3 hlK3 nK3 hbK3; have K3 := Lib.hid nK3; have AK3 := Lib.hid hbK3; have LK3 := Lib.hid hlK3; clear hlK3 nK3 hbK3) | (refine ld_ 42 _ rfl rfl gK1 27 rfl K1.out [.int .i64 m.p1, .int .i64 m.p2, .int .i64 m.q1, .int .i64 m.q2, .int .i64 m.q3, .int .u8 m.gr.b0, .int .u8 m.gr.b1, .int .u8 m.gr.b2, .int .u8 m.gr.b3, .int .u8 m.gr.b4, .int .u8 m.gr.b5, .int .u8 m.gr.b6, .int .u8 m.gr.b7, .int .i64 m.st, .int .u8 m.sn.c.b0, .int .u8 m.sn.c.b1, .int .u8 m.sn.c.b2, .int .u8 m.sn.c.b3, .int .u8 m.sn.c.b4, .int .u8 m.sn.c.b5, .int .u8 m.sn.c.b6, .int .u8 m.sn.c.b7, .int .i64 m.sn.n, .int .u8 m.rc.c.b0, .int .u8 m.rc.c.b1, .int .u8 m.rc.c.b2, .int .u8 m.rc.c.b3, .int .u8 m.rc.c.b4, .int .u8 m.rc.c.b5, .int .u8 m.rc.c.b6, .int .u8 m.rc.c.b7, .int .i64 m.rc.n] rfl Tryd.underlying42 rfl (by kernel_rfl) ?_; try simp only [Act.put, List.setIfInBounds_toArray, List.set_cons_zero, List.set_cons_succ]))
  go_ret
  exact ⟨ret_bool' HX.out.symm, HB.out⟩
set_option maxHeartbeats 4000000 in
theorem rr_9g (m : Ms) (w : World) (hh : m.h.right = true) (ht : rightB m.ts m.tn = true) (h9 : m.h.t = 9) (c : inB m.ak.n 1 65534 = false) (c1 : 65534 < m.ak.n) :
    Calls Tryd.prog 14 #[.agg (msA m)] w fun e w' => e = .returned (.bool m.right) ∧ Below w.heap.size w w' := by
  have HB := Lib.hid (Below.refl w.heap.size w)
  have HX := Lib.hid (show m.right = false by rw [right_ref]; unfold refR annR restR; simp [hh, ht, h9, c])
  have HH := Lib.hid hh
  have HT := Lib.hid ht
  have d9 : (m.h.t == 9) = true := by simp [h9]
  have d9b : (m.h.t != 9) = false := by simp [h9]
  have k1 : decide (m.ak.n < 1) = false := by simp; omega
  have k2 : decide (65534 < m.ak.n) = true := by simp; omega
  clear hh ht h9 c c1
  go_enter Tryd.func14, Tryd.ntmps14
  go_wp2_with (first | (refine ld_ 32 _ rfl rfl gK1 0 rfl K1.out [.int .i64 m.h.t, .int .i64 m.h.d, .int .i64 m.h.f, .int .i64 m.h.c, .int .u8 m.h.p.c.b0, .int .u8 m.h.p.c.b1, .int .u8 m.h.p.c.b2, .int .u8 m.h.p.c.b3, .int .u8 m.h.p.c.b4, .int .u8 m.h.p.c.b5, .int .u8 m.h.p.c.b6, .int .u8 m.h.p.c.b7, .int .i64 m.h.p.n, .int .i64 m.h.s, .int .i64 m.h.l] rfl Tryd.underlying32 rfl (by kernel_rfl) ?_; try simp only [Act.put, List.setIfInBounds_toArray, List.set_cons_zero, List.set_cons_succ]) | (refine big_box rfl 44 _ rfl (msA m) rfl (by kernel_rfl) ?_; intro gK1 wK1 hlK1 nK1 hbK1; replace HB := Lib.hid (bstep HB.out hbK1); have K1 := Lib.hid nK1; clear hlK1 nK1 hbK1))
  refine (rright5_any m.h _).mono ?_
  rintro e c1 ⟨rfl, hc1⟩
  replace K1 := Lib.hid ((K1.out).keptB hc1)
  replace HB := Lib.hid (bstep HB.out hc1)
  clear hc1
  rw [HH.out]
  go_wp2_with ((refine ld_ 38 _ rfl rfl gK1 15 rfl K1.out [.int .i64 m.ts, .int .i64 m.tn] rfl Tryd.underlying38 rfl (by kernel_rfl) ?_; try simp only [Act.put, List.setIfInBounds_toArray, List.set_cons_zero, List.set_cons_succ]))
  refine (rright_any m.ts m.tn _).mono ?_
  rintro e c2 ⟨rfl, hc2⟩
  replace K1 := Lib.hid ((K1.out).keptB hc2)
  replace HB := Lib.hid (bstep HB.out hc2)
  clear hc2
  rw [HT.out]
  go_wp2_with (first | (refine ld_ 26 _ rfl rfl gK1 17 rfl K1.out [.int .u8 m.ak.c.b0, .int .u8 m.ak.c.b1, .int .u8 m.ak.c.b2, .int .u8 m.ak.c.b3, .int .u8 m.ak.c.b4, .int .u8 m.ak.c.b5, .int .u8 m.ak.c.b6, .int .u8 m.ak.c.b7, .int .i64 m.ak.n] rfl Tryd.underlying26 rfl (by kernel_rfl) ?_; try simp only [Act.put, List.setIfInBounds_toArray, List.set_cons_zero, List.set_cons_succ]) | (refine ld_ 26 _ rfl rfl gK1 4 rfl K1.out [.int .u8 m.h.p.c.b0, .int .u8 m.h.p.c.b1, .int .u8 m.h.p.c.b2, .int .u8 m.h.p.c.b3, .int .u8 m.h.p.c.b4, .int .u8 m.h.p.c.b5, .int .u8 m.h.p.c.b6, .int .u8 m.h.p.c.b7, .int .i64 m.h.p.n] rfl Tryd.underlying26 rfl (by kernel_rfl) ?_; try simp only [Act.put, List.setIfInBounds_toArray, List.set_cons_zero, List.set_cons_succ]) | (refine ld_ 26 _ rfl rfl gK3 14 rfl K3.out [.int .u8 m.sn.c.b0, .int .u8 m.sn.c.b1, .int .u8 m.sn.c.b2, .int .u8 m.sn.c.b3, .int .u8 m.sn.c.b4, .int .u8 m.sn.c.b5, .int .u8 m.sn.c.b6, .int .u8 m.sn.c.b7, .int .i64 m.sn.n] rfl Tryd.underlying26 rfl (by kernel_rfl) ?_; try simp only [Act.put, List.setIfInBounds_toArray, List.set_cons_zero, List.set_cons_succ]) | (refine ld_ 26 _ rfl rfl gK3 23 rfl K3.out [.int .u8 m.rc.c.b0, .int .u8 m.rc.c.b1, .int .u8 m.rc.c.b2, .int .u8 m.rc.c.b3, .int .u8 m.rc.c.b4, .int .u8 m.rc.c.b5, .int .u8 m.rc.c.b6, .int .u8 m.rc.c.b7, .int .i64 m.rc.n] rfl Tryd.underlying26 rfl (by kernel_rfl) ?_; try simp only [Act.put, List.setIfInBounds_toArray, List.set_cons_zero, List.set_cons_succ]) | (refine ld_ 24 _ rfl rfl gK3 5 rfl K3.out [.int .u8 m.gr.b0, .int .u8 m.gr.b1, .int .u8 m.gr.b2, .int .u8 m.gr.b3, .int .u8 m.gr.b4, .int .u8 m.gr.b5, .int .u8 m.gr.b6, .int .u8 m.gr.b7] rfl Tryd.underlying24 rfl (by kernel_rfl) ?_; try simp only [Act.put, List.setIfInBounds_toArray, List.set_cons_zero, List.set_cons_succ]) | (refine wh_ 42 _ rfl rfl gK3 rfl K3.out Tryd.underlying42 rfl (by kernel_rfl) ?_; try simp only [Act.put, List.setIfInBounds_toArray, List.set_cons_zero, List.set_cons_succ]) | (refine bu_ 26 _ rfl rfl (#[.int .u8 0, .int .u8 0, .int .u8 0, .int .u8 0, .int .u8 0, .int .u8 0, .int .u8 0, .int .u8 0, .int .i64 0]) (by kernel_rfl) ?_; try simp only [Act.put, List.setIfInBounds_toArray, List.set_cons_zero, List.set_cons_succ]) | (refine bu_ 24 _ rfl rfl (#[.int .u8 0, .int .u8 0, .int .u8 0, .int .u8 0, .int .u8 0, .int .u8 0, .int .u8 0, .int .u8 0]) (by kernel_rfl) ?_; try simp only [Act.put, List.setIfInBounds_toArray, List.set_cons_zero, List.set_cons_succ]) | (refine bu_ 42 _ rfl rfl (#[.int .i64 0, .int .i64 0, .int .i64 0, .int .i64 0, .int .i64 0, .int .u8 0, .int .u8 0, .int .u8 0, .int .u8 0, .int .u8 0, .int .u8 0, .int .u8 0, .int .u8 0, .int .i64 0, .int .u8 0, .int .u8 0, .int .u8 0, .int .u8 0, .int .u8 0, .int .u8 0, .int .u8 0, .int .u8 0, .int .i64 0, .int .u8 0, .int .u8 0, .int .u8 0, .int .u8 0, .int .u8 0, .int .u8 0, .int .u8 0, .int .u8 0, .int .i64 0]) (by kernel_rfl) ?_; try simp only [Act.put, List.setIfInBounds_toArray, List.set_cons_zero, List.set_cons_succ]) | (refine big_fill rfl 42 _ _ rfl gK3 (setA m) rfl rfl K3.out (by kernel_rfl) (by kernel_rfl) (by kernel_rfl) ?_; intro vK3 nK3 tK3; have hbK3 := btouch AK3.out tK3 LK3.out; replace K1 := Lib.hid ((K1.out).keptB hbK3); replace HB := Lib.hid (bstep HB.out hbK3); replace K3 := Lib.hid nK3; clear nK3 tK3 hbK3 AK3 LK3; have x0 := (K1.out).reads (i := 0) (x := .int .i64 m.h.t) rfl; have x25 := (K1.out).reads (i := 25) (x := .int .i64 m.ak.n) rfl; have x26 := (K1.out).reads (i := 26) (x := .int .i64 m.o) rfl; have x59 := (K1.out).reads (i := 59) (x := .int .i64 m.src) rfl; have y0 := (K3.out).reads (i := 0) (x := .int .i64 m.p1) rfl; have y1 := (K3.out).reads (i := 1) (x := .int .i64 m.p2) rfl; have y2 := (K3.out).reads (i := 2) (x := .int .i64 m.q1) rfl; have y3 := (K3.out).reads (i := 3) (x := .int .i64 m.q2) rfl; have y4 := (K3.out).reads (i := 4) (x := .int .i64 m.q3) rfl; have y13 := (K3.out).reads (i := 13) (x := .int .i64 m.st) rfl) | (refine big_alloc rfl 42 rfl (#[.int .i64 0, .int .i64 0, .int .i64 0, .int .i64 0, .int .i64 0, .int .u8 0, .int .u8 0, .int .u8 0, .int .u8 0, .int .u8 0, .int .u8 0, .int .u8 0, .int .u8 0, .int .i64 0, .int .u8 0, .int .u8 0, .int .u8 0, .int .u8 0, .int .u8 0, .int .u8 0, .int .u8 0, .int .u8 0, .int .i64 0, .int .u8 0, .int .u8 0, .int .u8 0, .int .u8 0, .int .u8 0, .int .u8 0, .int .u8 0, .int .u8 0, .int .i64 0]) (by kernel_rfl) ?_; intro gK3 wK3 hlK3 nK3 hbK3; have K3 := Lib.hid nK3; have AK3 := Lib.hid hbK3; have LK3 := Lib.hid hlK3; clear hlK3 nK3 hbK3) | (refine ld_ 42 _ rfl rfl gK1 27 rfl K1.out [.int .i64 m.p1, .int .i64 m.p2, .int .i64 m.q1, .int .i64 m.q2, .int .i64 m.q3, .int .u8 m.gr.b0, .int .u8 m.gr.b1, .int .u8 m.gr.b2, .int .u8 m.gr.b3, .int .u8 m.gr.b4, .int .u8 m.gr.b5, .int .u8 m.gr.b6, .int .u8 m.gr.b7, .int .i64 m.st, .int .u8 m.sn.c.b0, .int .u8 m.sn.c.b1, .int .u8 m.sn.c.b2, .int .u8 m.sn.c.b3, .int .u8 m.sn.c.b4, .int .u8 m.sn.c.b5, .int .u8 m.sn.c.b6, .int .u8 m.sn.c.b7, .int .i64 m.sn.n, .int .u8 m.rc.c.b0, .int .u8 m.rc.c.b1, .int .u8 m.rc.c.b2, .int .u8 m.rc.c.b3, .int .u8 m.rc.c.b4, .int .u8 m.rc.c.b5, .int .u8 m.rc.c.b6, .int .u8 m.rc.c.b7, .int .i64 m.rc.n] rfl Tryd.underlying42 rfl (by kernel_rfl) ?_; try simp only [Act.put, List.setIfInBounds_toArray, List.set_cons_zero, List.set_cons_succ]))
  go_ret
  exact ⟨ret_bool' HX.out.symm, HB.out⟩
set_option maxHeartbeats 4000000 in
theorem rr_9o (m : Ms) (w : World) (hh : m.h.right = true) (ht : rightB m.ts m.tn = true) (h9 : m.h.t = 9) (c : inB m.ak.n 1 65534 = true) (c1 : 1 ≤ m.ak.n ∧ m.ak.n ≤ 65534) (co : ¬ m.o = 0) :
    Calls Tryd.prog 14 #[.agg (msA m)] w fun e w' => e = .returned (.bool m.right) ∧ Below w.heap.size w w' := by
  have HB := Lib.hid (Below.refl w.heap.size w)
  have HX := Lib.hid (show m.right = false by rw [right_ref]; unfold refR annR restR; simp [hh, ht, h9, c, co])
  have HH := Lib.hid hh
  have HT := Lib.hid ht
  have d9 : (m.h.t == 9) = true := by simp [h9]
  have d9b : (m.h.t != 9) = false := by simp [h9]
  have d11 : (m.h.t != 11) = true := by simp; omega
  have k1 : decide (m.ak.n < 1) = false := by simp; omega
  have k2 : decide (65534 < m.ak.n) = false := by simp; omega
  have k3 : (m.o == 0) = false := by simp [co]
  clear hh ht h9 c c1 co
  go_enter Tryd.func14, Tryd.ntmps14
  go_wp2_with (first | (refine ld_ 32 _ rfl rfl gK1 0 rfl K1.out [.int .i64 m.h.t, .int .i64 m.h.d, .int .i64 m.h.f, .int .i64 m.h.c, .int .u8 m.h.p.c.b0, .int .u8 m.h.p.c.b1, .int .u8 m.h.p.c.b2, .int .u8 m.h.p.c.b3, .int .u8 m.h.p.c.b4, .int .u8 m.h.p.c.b5, .int .u8 m.h.p.c.b6, .int .u8 m.h.p.c.b7, .int .i64 m.h.p.n, .int .i64 m.h.s, .int .i64 m.h.l] rfl Tryd.underlying32 rfl (by kernel_rfl) ?_; try simp only [Act.put, List.setIfInBounds_toArray, List.set_cons_zero, List.set_cons_succ]) | (refine big_box rfl 44 _ rfl (msA m) rfl (by kernel_rfl) ?_; intro gK1 wK1 hlK1 nK1 hbK1; replace HB := Lib.hid (bstep HB.out hbK1); have K1 := Lib.hid nK1; clear hlK1 nK1 hbK1))
  refine (rright5_any m.h _).mono ?_
  rintro e c1 ⟨rfl, hc1⟩
  replace K1 := Lib.hid ((K1.out).keptB hc1)
  replace HB := Lib.hid (bstep HB.out hc1)
  clear hc1
  rw [HH.out]
  go_wp2_with ((refine ld_ 38 _ rfl rfl gK1 15 rfl K1.out [.int .i64 m.ts, .int .i64 m.tn] rfl Tryd.underlying38 rfl (by kernel_rfl) ?_; try simp only [Act.put, List.setIfInBounds_toArray, List.set_cons_zero, List.set_cons_succ]))
  refine (rright_any m.ts m.tn _).mono ?_
  rintro e c2 ⟨rfl, hc2⟩
  replace K1 := Lib.hid ((K1.out).keptB hc2)
  replace HB := Lib.hid (bstep HB.out hc2)
  clear hc2
  rw [HT.out]
  go_wp2_with (first | (refine ld_ 26 _ rfl rfl gK1 17 rfl K1.out [.int .u8 m.ak.c.b0, .int .u8 m.ak.c.b1, .int .u8 m.ak.c.b2, .int .u8 m.ak.c.b3, .int .u8 m.ak.c.b4, .int .u8 m.ak.c.b5, .int .u8 m.ak.c.b6, .int .u8 m.ak.c.b7, .int .i64 m.ak.n] rfl Tryd.underlying26 rfl (by kernel_rfl) ?_; try simp only [Act.put, List.setIfInBounds_toArray, List.set_cons_zero, List.set_cons_succ]) | (refine ld_ 26 _ rfl rfl gK1 4 rfl K1.out [.int .u8 m.h.p.c.b0, .int .u8 m.h.p.c.b1, .int .u8 m.h.p.c.b2, .int .u8 m.h.p.c.b3, .int .u8 m.h.p.c.b4, .int .u8 m.h.p.c.b5, .int .u8 m.h.p.c.b6, .int .u8 m.h.p.c.b7, .int .i64 m.h.p.n] rfl Tryd.underlying26 rfl (by kernel_rfl) ?_; try simp only [Act.put, List.setIfInBounds_toArray, List.set_cons_zero, List.set_cons_succ]) | (refine ld_ 26 _ rfl rfl gK3 14 rfl K3.out [.int .u8 m.sn.c.b0, .int .u8 m.sn.c.b1, .int .u8 m.sn.c.b2, .int .u8 m.sn.c.b3, .int .u8 m.sn.c.b4, .int .u8 m.sn.c.b5, .int .u8 m.sn.c.b6, .int .u8 m.sn.c.b7, .int .i64 m.sn.n] rfl Tryd.underlying26 rfl (by kernel_rfl) ?_; try simp only [Act.put, List.setIfInBounds_toArray, List.set_cons_zero, List.set_cons_succ]) | (refine ld_ 26 _ rfl rfl gK3 23 rfl K3.out [.int .u8 m.rc.c.b0, .int .u8 m.rc.c.b1, .int .u8 m.rc.c.b2, .int .u8 m.rc.c.b3, .int .u8 m.rc.c.b4, .int .u8 m.rc.c.b5, .int .u8 m.rc.c.b6, .int .u8 m.rc.c.b7, .int .i64 m.rc.n] rfl Tryd.underlying26 rfl (by kernel_rfl) ?_; try simp only [Act.put, List.setIfInBounds_toArray, List.set_cons_zero, List.set_cons_succ]) | (refine ld_ 24 _ rfl rfl gK3 5 rfl K3.out [.int .u8 m.gr.b0, .int .u8 m.gr.b1, .int .u8 m.gr.b2, .int .u8 m.gr.b3, .int .u8 m.gr.b4, .int .u8 m.gr.b5, .int .u8 m.gr.b6, .int .u8 m.gr.b7] rfl Tryd.underlying24 rfl (by kernel_rfl) ?_; try simp only [Act.put, List.setIfInBounds_toArray, List.set_cons_zero, List.set_cons_succ]) | (refine wh_ 42 _ rfl rfl gK3 rfl K3.out Tryd.underlying42 rfl (by kernel_rfl) ?_; try simp only [Act.put, List.setIfInBounds_toArray, List.set_cons_zero, List.set_cons_succ]) | (refine bu_ 26 _ rfl rfl (#[.int .u8 0, .int .u8 0, .int .u8 0, .int .u8 0, .int .u8 0, .int .u8 0, .int .u8 0, .int .u8 0, .int .i64 0]) (by kernel_rfl) ?_; try simp only [Act.put, List.setIfInBounds_toArray, List.set_cons_zero, List.set_cons_succ]) | (refine bu_ 24 _ rfl rfl (#[.int .u8 0, .int .u8 0, .int .u8 0, .int .u8 0, .int .u8 0, .int .u8 0, .int .u8 0, .int .u8 0]) (by kernel_rfl) ?_; try simp only [Act.put, List.setIfInBounds_toArray, List.set_cons_zero, List.set_cons_succ]) | (refine bu_ 42 _ rfl rfl (#[.int .i64 0, .int .i64 0, .int .i64 0, .int .i64 0, .int .i64 0, .int .u8 0, .int .u8 0, .int .u8 0, .int .u8 0, .int .u8 0, .int .u8 0, .int .u8 0, .int .u8 0, .int .i64 0, .int .u8 0, .int .u8 0, .int .u8 0, .int .u8 0, .int .u8 0, .int .u8 0, .int .u8 0, .int .u8 0, .int .i64 0, .int .u8 0, .int .u8 0, .int .u8 0, .int .u8 0, .int .u8 0, .int .u8 0, .int .u8 0, .int .u8 0, .int .i64 0]) (by kernel_rfl) ?_; try simp only [Act.put, List.setIfInBounds_toArray, List.set_cons_zero, List.set_cons_succ]) | (refine big_fill rfl 42 _ _ rfl gK3 (setA m) rfl rfl K3.out (by kernel_rfl) (by kernel_rfl) (by kernel_rfl) ?_; intro vK3 nK3 tK3; have hbK3 := btouch AK3.out tK3 LK3.out; replace K1 := Lib.hid ((K1.out).keptB hbK3); replace HB := Lib.hid (bstep HB.out hbK3); replace K3 := Lib.hid nK3; clear nK3 tK3 hbK3 AK3 LK3; have x0 := (K1.out).reads (i := 0) (x := .int .i64 m.h.t) rfl; have x25 := (K1.out).reads (i := 25) (x := .int .i64 m.ak.n) rfl; have x26 := (K1.out).reads (i := 26) (x := .int .i64 m.o) rfl; have x59 := (K1.out).reads (i := 59) (x := .int .i64 m.src) rfl; have y0 := (K3.out).reads (i := 0) (x := .int .i64 m.p1) rfl; have y1 := (K3.out).reads (i := 1) (x := .int .i64 m.p2) rfl; have y2 := (K3.out).reads (i := 2) (x := .int .i64 m.q1) rfl; have y3 := (K3.out).reads (i := 3) (x := .int .i64 m.q2) rfl; have y4 := (K3.out).reads (i := 4) (x := .int .i64 m.q3) rfl; have y13 := (K3.out).reads (i := 13) (x := .int .i64 m.st) rfl) | (refine big_alloc rfl 42 rfl (#[.int .i64 0, .int .i64 0, .int .i64 0, .int .i64 0, .int .i64 0, .int .u8 0, .int .u8 0, .int .u8 0, .int .u8 0, .int .u8 0, .int .u8 0, .int .u8 0, .int .u8 0, .int .i64 0, .int .u8 0, .int .u8 0, .int .u8 0, .int .u8 0, .int .u8 0, .int .u8 0, .int .u8 0, .int .u8 0, .int .i64 0, .int .u8 0, .int .u8 0, .int .u8 0, .int .u8 0, .int .u8 0, .int .u8 0, .int .u8 0, .int .u8 0, .int .i64 0]) (by kernel_rfl) ?_; intro gK3 wK3 hlK3 nK3 hbK3; have K3 := Lib.hid nK3; have AK3 := Lib.hid hbK3; have LK3 := Lib.hid hlK3; clear hlK3 nK3 hbK3) | (refine ld_ 42 _ rfl rfl gK1 27 rfl K1.out [.int .i64 m.p1, .int .i64 m.p2, .int .i64 m.q1, .int .i64 m.q2, .int .i64 m.q3, .int .u8 m.gr.b0, .int .u8 m.gr.b1, .int .u8 m.gr.b2, .int .u8 m.gr.b3, .int .u8 m.gr.b4, .int .u8 m.gr.b5, .int .u8 m.gr.b6, .int .u8 m.gr.b7, .int .i64 m.st, .int .u8 m.sn.c.b0, .int .u8 m.sn.c.b1, .int .u8 m.sn.c.b2, .int .u8 m.sn.c.b3, .int .u8 m.sn.c.b4, .int .u8 m.sn.c.b5, .int .u8 m.sn.c.b6, .int .u8 m.sn.c.b7, .int .i64 m.sn.n, .int .u8 m.rc.c.b0, .int .u8 m.rc.c.b1, .int .u8 m.rc.c.b2, .int .u8 m.rc.c.b3, .int .u8 m.rc.c.b4, .int .u8 m.rc.c.b5, .int .u8 m.rc.c.b6, .int .u8 m.rc.c.b7, .int .i64 m.rc.n] rfl Tryd.underlying42 rfl (by kernel_rfl) ?_; try simp only [Act.put, List.setIfInBounds_toArray, List.set_cons_zero, List.set_cons_succ]))
  go_ret
  exact ⟨ret_bool' HX.out.symm, HB.out⟩
set_option maxHeartbeats 4000000 in
theorem rr_9s (m : Ms) (w : World) (hh : m.h.right = true) (ht : rightB m.ts m.tn = true) (h9 : m.h.t = 9) (c : inB m.ak.n 1 65534 = true) (c1 : 1 ≤ m.ak.n ∧ m.ak.n ≤ 65534) (co : m.o = 0) (cs : ¬ m.src = 0) :
    Calls Tryd.prog 14 #[.agg (msA m)] w fun e w' => e = .returned (.bool m.right) ∧ Below w.heap.size w w' := by
  have HB := Lib.hid (Below.refl w.heap.size w)
  have HX := Lib.hid (show m.right = false by rw [right_ref]; unfold refR annR restR; simp [hh, ht, h9, c, co, cs])
  have HH := Lib.hid hh
  have HT := Lib.hid ht
  have d9 : (m.h.t == 9) = true := by simp [h9]
  have d9b : (m.h.t != 9) = false := by simp [h9]
  have d11 : (m.h.t != 11) = true := by simp; omega
  have k1 : decide (m.ak.n < 1) = false := by simp; omega
  have k2 : decide (65534 < m.ak.n) = false := by simp; omega
  have k3 : (m.o == 0) = true := by simp [co]
  have k4 : (m.src == 0) = false := by simp [cs]
  clear hh ht h9 c c1 co cs
  go_enter Tryd.func14, Tryd.ntmps14
  go_wp2_with (first | (refine ld_ 32 _ rfl rfl gK1 0 rfl K1.out [.int .i64 m.h.t, .int .i64 m.h.d, .int .i64 m.h.f, .int .i64 m.h.c, .int .u8 m.h.p.c.b0, .int .u8 m.h.p.c.b1, .int .u8 m.h.p.c.b2, .int .u8 m.h.p.c.b3, .int .u8 m.h.p.c.b4, .int .u8 m.h.p.c.b5, .int .u8 m.h.p.c.b6, .int .u8 m.h.p.c.b7, .int .i64 m.h.p.n, .int .i64 m.h.s, .int .i64 m.h.l] rfl Tryd.underlying32 rfl (by kernel_rfl) ?_; try simp only [Act.put, List.setIfInBounds_toArray, List.set_cons_zero, List.set_cons_succ]) | (refine big_box rfl 44 _ rfl (msA m) rfl (by kernel_rfl) ?_; intro gK1 wK1 hlK1 nK1 hbK1; replace HB := Lib.hid (bstep HB.out hbK1); have K1 := Lib.hid nK1; clear hlK1 nK1 hbK1))
  refine (rright5_any m.h _).mono ?_
  rintro e c1 ⟨rfl, hc1⟩
  replace K1 := Lib.hid ((K1.out).keptB hc1)
  replace HB := Lib.hid (bstep HB.out hc1)
  clear hc1
  rw [HH.out]
  go_wp2_with ((refine ld_ 38 _ rfl rfl gK1 15 rfl K1.out [.int .i64 m.ts, .int .i64 m.tn] rfl Tryd.underlying38 rfl (by kernel_rfl) ?_; try simp only [Act.put, List.setIfInBounds_toArray, List.set_cons_zero, List.set_cons_succ]))
  refine (rright_any m.ts m.tn _).mono ?_
  rintro e c2 ⟨rfl, hc2⟩
  replace K1 := Lib.hid ((K1.out).keptB hc2)
  replace HB := Lib.hid (bstep HB.out hc2)
  clear hc2
  rw [HT.out]
  go_wp2_with (first | (refine ld_ 26 _ rfl rfl gK1 17 rfl K1.out [.int .u8 m.ak.c.b0, .int .u8 m.ak.c.b1, .int .u8 m.ak.c.b2, .int .u8 m.ak.c.b3, .int .u8 m.ak.c.b4, .int .u8 m.ak.c.b5, .int .u8 m.ak.c.b6, .int .u8 m.ak.c.b7, .int .i64 m.ak.n] rfl Tryd.underlying26 rfl (by kernel_rfl) ?_; try simp only [Act.put, List.setIfInBounds_toArray, List.set_cons_zero, List.set_cons_succ]) | (refine ld_ 26 _ rfl rfl gK1 4 rfl K1.out [.int .u8 m.h.p.c.b0, .int .u8 m.h.p.c.b1, .int .u8 m.h.p.c.b2, .int .u8 m.h.p.c.b3, .int .u8 m.h.p.c.b4, .int .u8 m.h.p.c.b5, .int .u8 m.h.p.c.b6, .int .u8 m.h.p.c.b7, .int .i64 m.h.p.n] rfl Tryd.underlying26 rfl (by kernel_rfl) ?_; try simp only [Act.put, List.setIfInBounds_toArray, List.set_cons_zero, List.set_cons_succ]) | (refine ld_ 26 _ rfl rfl gK3 14 rfl K3.out [.int .u8 m.sn.c.b0, .int .u8 m.sn.c.b1, .int .u8 m.sn.c.b2, .int .u8 m.sn.c.b3, .int .u8 m.sn.c.b4, .int .u8 m.sn.c.b5, .int .u8 m.sn.c.b6, .int .u8 m.sn.c.b7, .int .i64 m.sn.n] rfl Tryd.underlying26 rfl (by kernel_rfl) ?_; try simp only [Act.put, List.setIfInBounds_toArray, List.set_cons_zero, List.set_cons_succ]) | (refine ld_ 26 _ rfl rfl gK3 23 rfl K3.out [.int .u8 m.rc.c.b0, .int .u8 m.rc.c.b1, .int .u8 m.rc.c.b2, .int .u8 m.rc.c.b3, .int .u8 m.rc.c.b4, .int .u8 m.rc.c.b5, .int .u8 m.rc.c.b6, .int .u8 m.rc.c.b7, .int .i64 m.rc.n] rfl Tryd.underlying26 rfl (by kernel_rfl) ?_; try simp only [Act.put, List.setIfInBounds_toArray, List.set_cons_zero, List.set_cons_succ]) | (refine ld_ 24 _ rfl rfl gK3 5 rfl K3.out [.int .u8 m.gr.b0, .int .u8 m.gr.b1, .int .u8 m.gr.b2, .int .u8 m.gr.b3, .int .u8 m.gr.b4, .int .u8 m.gr.b5, .int .u8 m.gr.b6, .int .u8 m.gr.b7] rfl Tryd.underlying24 rfl (by kernel_rfl) ?_; try simp only [Act.put, List.setIfInBounds_toArray, List.set_cons_zero, List.set_cons_succ]) | (refine wh_ 42 _ rfl rfl gK3 rfl K3.out Tryd.underlying42 rfl (by kernel_rfl) ?_; try simp only [Act.put, List.setIfInBounds_toArray, List.set_cons_zero, List.set_cons_succ]) | (refine bu_ 26 _ rfl rfl (#[.int .u8 0, .int .u8 0, .int .u8 0, .int .u8 0, .int .u8 0, .int .u8 0, .int .u8 0, .int .u8 0, .int .i64 0]) (by kernel_rfl) ?_; try simp only [Act.put, List.setIfInBounds_toArray, List.set_cons_zero, List.set_cons_succ]) | (refine bu_ 24 _ rfl rfl (#[.int .u8 0, .int .u8 0, .int .u8 0, .int .u8 0, .int .u8 0, .int .u8 0, .int .u8 0, .int .u8 0]) (by kernel_rfl) ?_; try simp only [Act.put, List.setIfInBounds_toArray, List.set_cons_zero, List.set_cons_succ]) | (refine bu_ 42 _ rfl rfl (#[.int .i64 0, .int .i64 0, .int .i64 0, .int .i64 0, .int .i64 0, .int .u8 0, .int .u8 0, .int .u8 0, .int .u8 0, .int .u8 0, .int .u8 0, .int .u8 0, .int .u8 0, .int .i64 0, .int .u8 0, .int .u8 0, .int .u8 0, .int .u8 0, .int .u8 0, .int .u8 0, .int .u8 0, .int .u8 0, .int .i64 0, .int .u8 0, .int .u8 0, .int .u8 0, .int .u8 0, .int .u8 0, .int .u8 0, .int .u8 0, .int .u8 0, .int .i64 0]) (by kernel_rfl) ?_; try simp only [Act.put, List.setIfInBounds_toArray, List.set_cons_zero, List.set_cons_succ]) | (refine big_fill rfl 42 _ _ rfl gK3 (setA m) rfl rfl K3.out (by kernel_rfl) (by kernel_rfl) (by kernel_rfl) ?_; intro vK3 nK3 tK3; have hbK3 := btouch AK3.out tK3 LK3.out; replace K1 := Lib.hid ((K1.out).keptB hbK3); replace HB := Lib.hid (bstep HB.out hbK3); replace K3 := Lib.hid nK3; clear nK3 tK3 hbK3 AK3 LK3; have x0 := (K1.out).reads (i := 0) (x := .int .i64 m.h.t) rfl; have x25 := (K1.out).reads (i := 25) (x := .int .i64 m.ak.n) rfl; have x26 := (K1.out).reads (i := 26) (x := .int .i64 m.o) rfl; have x59 := (K1.out).reads (i := 59) (x := .int .i64 m.src) rfl; have y0 := (K3.out).reads (i := 0) (x := .int .i64 m.p1) rfl; have y1 := (K3.out).reads (i := 1) (x := .int .i64 m.p2) rfl; have y2 := (K3.out).reads (i := 2) (x := .int .i64 m.q1) rfl; have y3 := (K3.out).reads (i := 3) (x := .int .i64 m.q2) rfl; have y4 := (K3.out).reads (i := 4) (x := .int .i64 m.q3) rfl; have y13 := (K3.out).reads (i := 13) (x := .int .i64 m.st) rfl) | (refine big_alloc rfl 42 rfl (#[.int .i64 0, .int .i64 0, .int .i64 0, .int .i64 0, .int .i64 0, .int .u8 0, .int .u8 0, .int .u8 0, .int .u8 0, .int .u8 0, .int .u8 0, .int .u8 0, .int .u8 0, .int .i64 0, .int .u8 0, .int .u8 0, .int .u8 0, .int .u8 0, .int .u8 0, .int .u8 0, .int .u8 0, .int .u8 0, .int .i64 0, .int .u8 0, .int .u8 0, .int .u8 0, .int .u8 0, .int .u8 0, .int .u8 0, .int .u8 0, .int .u8 0, .int .i64 0]) (by kernel_rfl) ?_; intro gK3 wK3 hlK3 nK3 hbK3; have K3 := Lib.hid nK3; have AK3 := Lib.hid hbK3; have LK3 := Lib.hid hlK3; clear hlK3 nK3 hbK3) | (refine ld_ 42 _ rfl rfl gK1 27 rfl K1.out [.int .i64 m.p1, .int .i64 m.p2, .int .i64 m.q1, .int .i64 m.q2, .int .i64 m.q3, .int .u8 m.gr.b0, .int .u8 m.gr.b1, .int .u8 m.gr.b2, .int .u8 m.gr.b3, .int .u8 m.gr.b4, .int .u8 m.gr.b5, .int .u8 m.gr.b6, .int .u8 m.gr.b7, .int .i64 m.st, .int .u8 m.sn.c.b0, .int .u8 m.sn.c.b1, .int .u8 m.sn.c.b2, .int .u8 m.sn.c.b3, .int .u8 m.sn.c.b4, .int .u8 m.sn.c.b5, .int .u8 m.sn.c.b6, .int .u8 m.sn.c.b7, .int .i64 m.sn.n, .int .u8 m.rc.c.b0, .int .u8 m.rc.c.b1, .int .u8 m.rc.c.b2, .int .u8 m.rc.c.b3, .int .u8 m.rc.c.b4, .int .u8 m.rc.c.b5, .int .u8 m.rc.c.b6, .int .u8 m.rc.c.b7, .int .i64 m.rc.n] rfl Tryd.underlying42 rfl (by kernel_rfl) ?_; try simp only [Act.put, List.setIfInBounds_toArray, List.set_cons_zero, List.set_cons_succ]))
  go_ret
  exact ⟨ret_bool' HX.out.symm, HB.out⟩

end Go.Proofs.YtifhjmhekapaoaaDoor
