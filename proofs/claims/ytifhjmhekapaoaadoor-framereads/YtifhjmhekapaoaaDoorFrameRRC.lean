/- Ways of the walk over the reference's Right of layer 6. -/
import Derived.Test.YtifhjmhekapaoaaDoorFrameRefRight
namespace Go.Proofs.YtifhjmhekapaoaaDoor
set_option maxRecDepth 100000
open Go.RowKit
set_option linter.unusedVariables false

set_option maxHeartbeats 4000000 in
theorem rr_ol (m : Ms) (w : World) (hh : m.h.right = true) (ht : rightB m.ts m.tn = true) (h9 : ¬ m.h.t = 9) (a : eqP m.ak zeroP = true) (h11 : m.h.t = 11) (o : inB m.o (-32768) 32767 = false) (o1 : m.o < -32768) :
    Calls Tryd.prog 14 #[.agg (msA m)] w fun e w' => e = .returned (.bool m.right) ∧ Below w.heap.size w w' := by
  have HB := Lib.hid (Below.refl w.heap.size w)
  have HX := Lib.hid (show m.right = false by rw [right_ref]; unfold refR annR restR; simp [hh, ht, a, h11, o])
  have HH := Lib.hid hh
  have HT := Lib.hid ht
  have d9 : (m.h.t == 9) = false := by simp [h9]
  have d9b : (m.h.t != 9) = true := by simp [h9]
  have d11 : (m.h.t != 11) = false := by simp [h11]
  have HA := Lib.hid a
  have k5 : decide (m.o < -32768) = true := by simp; omega
  clear hh ht h9 a h11 o o1
  go_enter Tryd.func14, Tryd.ntmps14
  go_wp2_with (first | (refine ld_ 32 _ rfl rfl gK1 0 rfl K1.out [.int .i64 m.h.t, .int .i64 m.h.d, .int .i64 m.h.f, .int .i64 m.h.c, .int .u8 m.h.p.c.b0, .int .u8 m.h.p.c.b1, .int .u8 m.h.p.c.b2, .int .u8 m.h.p.c.b3, .int .u8 m.h.p.c.b4, .int .u8 m.h.p.c.b5, .int .u8 m.h.p.c.b6, .int .u8 m.h.p.c.b7, .int .i64 m.h.p.n, .int .i64 m.h.s, .int .i64 m.h.l] rfl Tryd.underlying32 rfl (by kernel_rfl) ?_; try simp only [Act.put, List.setIfInBounds_toArray, List.set_cons_zero, List.set_cons_succ]) | (refine big_box rfl 44 _ rfl (msA m) rfl (by kernel_rfl) ?_; intro gK1 wK1 hlK1 nK1 hbK1; replace HB := Lib.hid (bstep HB.out hbK1); have K1 := Lib.hid nK1; clear hlK1 nK1 hbK1))
  refine (rright5_any m.h _).mono ?_
  rintro e c1 ⟨rfl, hc1⟩
  replace K1 := Lib.hid ((K1.out).keptB hc1)
  replace HB := Lib.hid (bstep HB.out hc1)
  clear hc1
  rw [HH.out]
  go_wp2_with ((refine ld_ 38 _ rfl rfl gK1 15 rfl K1.out [.int .i64 m.ts, .int .i64 m.tn] rfl Tryd.underlying38 rfl (by kernel_rfl) ?_; try simp only [Act.put, List.setIfInBounds_toArray, List.set_cons_zero, List.set_cons_succ]))
  refine (rright_any m.ts m.tn _).mono ?_
  rintro e c2 ⟨rfl, hc2⟩
  replace K1 := Lib.hid ((K1.out).keptB hc2)
  replace HB := Lib.hid (bstep HB.out hc2)
  clear hc2
  rw [HT.out]
  go_upto_region 4 with (first | (refine big_fill rfl 42 _ _ rfl gK3 (setA m) rfl rfl K3.out (by kernel_rfl) (by kernel_rfl) (by kernel_rfl) ?_; intro vK3 nK3 tK3; have hbK3 := btouch AK3.out tK3 LK3.out; replace K1 := Lib.hid ((K1.out).keptB hbK3); replace HB := Lib.hid (bstep HB.out hbK3); replace K3 := Lib.hid nK3; clear nK3 tK3 hbK3 AK3 LK3; have x0 := (K1.out).reads (i := 0) (x := .int .i64 m.h.t) rfl; have x25 := (K1.out).reads (i := 25) (x := .int .i64 m.ak.n) rfl; have x26 := (K1.out).reads (i := 26) (x := .int .i64 m.o) rfl; have x59 := (K1.out).reads (i := 59) (x := .int .i64 m.src) rfl; have y0 := (K3.out).reads (i := 0) (x := .int .i64 m.p1) rfl; have y1 := (K3.out).reads (i := 1) (x := .int .i64 m.p2) rfl; have y2 := (K3.out).reads (i := 2) (x := .int .i64 m.q1) rfl; have y3 := (K3.out).reads (i := 3) (x := .int .i64 m.q2) rfl; have y4 := (K3.out).reads (i := 4) (x := .int .i64 m.q3) rfl; have y13 := (K3.out).reads (i := 13) (x := .int .i64 m.st) rfl) | (refine big_alloc rfl 42 rfl (#[.int .i64 0, .int .i64 0, .int .i64 0, .int .i64 0, .int .i64 0, .int .u8 0, .int .u8 0, .int .u8 0, .int .u8 0, .int .u8 0, .int .u8 0, .int .u8 0, .int .u8 0, .int .i64 0, .int .u8 0, .int .u8 0, .int .u8 0, .int .u8 0, .int .u8 0, .int .u8 0, .int .u8 0, .int .u8 0, .int .i64 0, .int .u8 0, .int .u8 0, .int .u8 0, .int .u8 0, .int .u8 0, .int .u8 0, .int .u8 0, .int .u8 0, .int .i64 0]) (by kernel_rfl) ?_; intro gK3 wK3 hlK3 nK3 hbK3; have K3 := Lib.hid nK3; have AK3 := Lib.hid hbK3; have LK3 := Lib.hid hlK3; clear hlK3 nK3 hbK3) | (refine ld_ 42 _ rfl rfl gK1 27 rfl K1.out [.int .i64 m.p1, .int .i64 m.p2, .int .i64 m.q1, .int .i64 m.q2, .int .i64 m.q3, .int .u8 m.gr.b0, .int .u8 m.gr.b1, .int .u8 m.gr.b2, .int .u8 m.gr.b3, .int .u8 m.gr.b4, .int .u8 m.gr.b5, .int .u8 m.gr.b6, .int .u8 m.gr.b7, .int .i64 m.st, .int .u8 m.sn.c.b0, .int .u8 m.sn.c.b1, .int .u8 m.sn.c.b2, .int .u8 m.sn.c.b3, .int .u8 m.sn.c.b4, .int .u8 m.sn.c.b5, .int .u8 m.sn.c.b6, .int .u8 m.sn.c.b7, .int .i64 m.sn.n, .int .u8 m.rc.c.b0, .int .u8 m.rc.c.b1, .int .u8 m.rc.c.b2, .int .u8 m.rc.c.b3, .int .u8 m.rc.c.b4, .int .u8 m.rc.c.b5, .int .u8 m.rc.c.b6, .int .u8 m.rc.c.b7, .int .i64 m.rc.n] rfl Tryd.underlying42 rfl (by kernel_rfl) ?_; try simp only [Act.put, List.setIfInBounds_toArray, List.set_cons_zero, List.set_cons_succ]))
  go_upto_region 6 with (first | (refine cm_ .neq 26 _ _ _ rfl rfl #[.int .u8 m.ak.c.b0, .int .u8 m.ak.c.b1, .int .u8 m.ak.c.b2, .int .u8 m.ak.c.b3, .int .u8 m.ak.c.b4, .int .u8 m.ak.c.b5, .int .u8 m.ak.c.b6, .int .u8 m.ak.c.b7, .int .i64 m.ak.n] #[.int .u8 0, .int .u8 0, .int .u8 0, .int .u8 0, .int .u8 0, .int .u8 0, .int .u8 0, .int .u8 0, .int .i64 0] rfl rfl (by kernel_rfl) false (nqz m.ak false HA.out) ?_; try simp only [Act.put, List.setIfInBounds_toArray, List.set_cons_zero, List.set_cons_succ]) | (refine bu_ 26 _ rfl rfl (#[.int .u8 0, .int .u8 0, .int .u8 0, .int .u8 0, .int .u8 0, .int .u8 0, .int .u8 0, .int .u8 0, .int .i64 0]) (by kernel_rfl) ?_; try simp only [Act.put, List.setIfInBounds_toArray, List.set_cons_zero, List.set_cons_succ]) | (refine ld_ 26 _ rfl rfl gK1 17 rfl K1.out [.int .u8 m.ak.c.b0, .int .u8 m.ak.c.b1, .int .u8 m.ak.c.b2, .int .u8 m.ak.c.b3, .int .u8 m.ak.c.b4, .int .u8 m.ak.c.b5, .int .u8 m.ak.c.b6, .int .u8 m.ak.c.b7, .int .i64 m.ak.n] rfl Tryd.underlying26 rfl (by kernel_rfl) ?_; try simp only [Act.put, List.setIfInBounds_toArray, List.set_cons_zero, List.set_cons_succ]))
  go_upto_region 8 with fail
  go_upto_region 10 with fail
  go_wp2_with fail
  go_ret
  exact ⟨ret_bool' HX.out.symm, HB.out⟩
set_option maxHeartbeats 4000000 in
theorem rr_og (m : Ms) (w : World) (hh : m.h.right = true) (ht : rightB m.ts m.tn = true) (h9 : ¬ m.h.t = 9) (a : eqP m.ak zeroP = true) (h11 : m.h.t = 11) (o : inB m.o (-32768) 32767 = false) (o1 : 32767 < m.o) :
    Calls Tryd.prog 14 #[.agg (msA m)] w fun e w' => e = .returned (.bool m.right) ∧ Below w.heap.size w w' := by
  have HB := Lib.hid (Below.refl w.heap.size w)
  have HX := Lib.hid (show m.right = false by rw [right_ref]; unfold refR annR restR; simp [hh, ht, a, h11, o])
  have HH := Lib.hid hh
  have HT := Lib.hid ht
  have d9 : (m.h.t == 9) = false := by simp [h9]
  have d9b : (m.h.t != 9) = true := by simp [h9]
  have d11 : (m.h.t != 11) = false := by simp [h11]
  have HA := Lib.hid a
  have k5 : decide (m.o < -32768) = false := by simp; omega
  have k6 : decide (32767 < m.o) = true := by simp; omega
  clear hh ht h9 a h11 o o1
  go_enter Tryd.func14, Tryd.ntmps14
  go_wp2_with (first | (refine ld_ 32 _ rfl rfl gK1 0 rfl K1.out [.int .i64 m.h.t, .int .i64 m.h.d, .int .i64 m.h.f, .int .i64 m.h.c, .int .u8 m.h.p.c.b0, .int .u8 m.h.p.c.b1, .int .u8 m.h.p.c.b2, .int .u8 m.h.p.c.b3, .int .u8 m.h.p.c.b4, .int .u8 m.h.p.c.b5, .int .u8 m.h.p.c.b6, .int .u8 m.h.p.c.b7, .int .i64 m.h.p.n, .int .i64 m.h.s, .int .i64 m.h.l] rfl Tryd.underlying32 rfl (by kernel_rfl) ?_; try simp only [Act.put, List.setIfInBounds_toArray, List.set_cons_zero, List.set_cons_succ]) | (refine big_box rfl 44 _ rfl (msA m) rfl (by kernel_rfl) ?_; intro gK1 wK1 hlK1 nK1 hbK1; replace HB := Lib.hid (bstep HB.out hbK1); have K1 := Lib.hid nK1; clear hlK1 nK1 hbK1))
  refine (rright5_any m.h _).mono ?_
  rintro e c1 ⟨rfl, hc1⟩
  replace K1 := Lib.hid ((K1.out).keptB hc1)
  replace HB := Lib.hid (bstep HB.out hc1)
  clear hc1
  rw [HH.out]
  go_wp2_with ((refine ld_ 38 _ rfl rfl gK1 15 rfl K1.out [.int .i64 m.ts, .int .i64 m.tn] rfl Tryd.underlying38 rfl (by kernel_rfl) ?_; try simp only [Act.put, List.setIfInBounds_toArray, List.set_cons_zero, List.set_cons_succ]))
  refine (rright_any m.ts m.tn _).mono ?_
  rintro e c2 ⟨rfl, hc2⟩
  replace K1 := Lib.hid ((K1.out).keptB hc2)
  replace HB := Lib.hid (bstep HB.out hc2)
  clear hc2
  rw [HT.out]
  go_upto_region 4 with (first | (refine big_fill rfl 42 _ _ rfl gK3 (setA m) rfl rfl K3.out (by kernel_rfl) (by kernel_rfl) (by kernel_rfl) ?_; intro vK3 nK3 tK3; have hbK3 := btouch AK3.out tK3 LK3.out; replace K1 := Lib.hid ((K1.out).keptB hbK3); replace HB := Lib.hid (bstep HB.out hbK3); replace K3 := Lib.hid nK3; clear nK3 tK3 hbK3 AK3 LK3; have x0 := (K1.out).reads (i := 0) (x := .int .i64 m.h.t) rfl; have x25 := (K1.out).reads (i := 25) (x := .int .i64 m.ak.n) rfl; have x26 := (K1.out).reads (i := 26) (x := .int .i64 m.o) rfl; have x59 := (K1.out).reads (i := 59) (x := .int .i64 m.src) rfl; have y0 := (K3.out).reads (i := 0) (x := .int .i64 m.p1) rfl; have y1 := (K3.out).reads (i := 1) (x := .int .i64 m.p2) rfl; have y2 := (K3.out).reads (i := 2) (x := .int .i64 m.q1) rfl; have y3 := (K3.out).reads (i := 3) (x := .int .i64 m.q2) rfl; have y4 := (K3.out).reads (i := 4) (x := .int .i64 m.q3) rfl; have y13 := (K3.out).reads (i := 13) (x := .int .i64 m.st) rfl) | (refine big_alloc rfl 42 rfl (#[.int .i64 0, .int .i64 0, .int .i64 0, .int .i64 0, .int .i64 0, .int .u8 0, .int .u8 0, .int .u8 0, .int .u8 0, .int .u8 0, .int .u8 0, .int .u8 0, .int .u8 0, .int .i64 0, .int .u8 0, .int .u8 0, .int .u8 0, .int .u8 0, .int .u8 0, .int .u8 0, .int .u8 0, .int .u8 0, .int .i64 0, .int .u8 0, .int .u8 0, .int .u8 0, .int .u8 0, .int .u8 0, .int .u8 0, .int .u8 0, .int .u8 0, .int .i64 0]) (by kernel_rfl) ?_; intro gK3 wK3 hlK3 nK3 hbK3; have K3 := Lib.hid nK3; have AK3 := Lib.hid hbK3; have LK3 := Lib.hid hlK3; clear hlK3 nK3 hbK3) | (refine ld_ 42 _ rfl rfl gK1 27 rfl K1.out [.int .i64 m.p1, .int .i64 m.p2, .int .i64 m.q1, .int .i64 m.q2, .int .i64 m.q3, .int .u8 m.gr.b0, .int .u8 m.gr.b1, .int .u8 m.gr.b2, .int .u8 m.gr.b3, .int .u8 m.gr.b4, .int .u8 m.gr.b5, .int .u8 m.gr.b6, .int .u8 m.gr.b7, .int .i64 m.st, .int .u8 m.sn.c.b0, .int .u8 m.sn.c.b1, .int .u8 m.sn.c.b2, .int .u8 m.sn.c.b3, .int .u8 m.sn.c.b4, .int .u8 m.sn.c.b5, .int .u8 m.sn.c.b6, .int .u8 m.sn.c.b7, .int .i64 m.sn.n, .int .u8 m.rc.c.b0, .int .u8 m.rc.c.b1, .int .u8 m.rc.c.b2, .int .u8 m.rc.c.b3, .int .u8 m.rc.c.b4, .int .u8 m.rc.c.b5, .int .u8 m.rc.c.b6, .int .u8 m.rc.c.b7, .int .i64 m.rc.n] rfl Tryd.underlying42 rfl (by kernel_rfl) ?_; try simp only [Act.put, List.setIfInBounds_toArray, List.set_cons_zero, List.set_cons_succ]))
  go_upto_region 6 with (first | (refine cm_ .neq 26 _ _ _ rfl rfl #[.int .u8 m.ak.c.b0, .int .u8 m.ak.c.b1, .int .u8 m.ak.c.b2, .int .u8 m.ak.c.b3, .int .u8 m.ak.c.b4, .int .u8 m.ak.c.b5, .int .u8 m.ak.c.b6, .int .u8 m.ak.c.b7, .int .i64 m.ak.n] #[.int .u8 0, .int .u8 0, .int .u8 0, .int .u8 0, .int .u8 0, .int .u8 0, .int .u8 0, .int .u8 0, .int .i64 0] rfl rfl (by kernel_rfl) false (nqz m.ak false HA.out) ?_; try simp only [Act.put, List.setIfInBounds_toArray, List.set_cons_zero, List.set_cons_succ]) | (refine bu_ 26 _ rfl rfl (#[.int .u8 0, .int .u8 0, .int .u8 0, .int .u8 0, .int .u8 0, .int .u8 0, .int .u8 0, .int .u8 0, .int .i64 0]) (by kernel_rfl) ?_; try simp only [Act.put, List.setIfInBounds_toArray, List.set_cons_zero, List.set_cons_succ]) | (refine ld_ 26 _ rfl rfl gK1 17 rfl K1.out [.int .u8 m.ak.c.b0, .int .u8 m.ak.c.b1, .int .u8 m.ak.c.b2, .int .u8 m.ak.c.b3, .int .u8 m.ak.c.b4, .int .u8 m.ak.c.b5, .int .u8 m.ak.c.b6, .int .u8 m.ak.c.b7, .int .i64 m.ak.n] rfl Tryd.underlying26 rfl (by kernel_rfl) ?_; try simp only [Act.put, List.setIfInBounds_toArray, List.set_cons_zero, List.set_cons_succ]))
  go_upto_region 8 with fail
  go_upto_region 10 with fail
  go_wp2_with fail
  go_ret
  exact ⟨ret_bool' HX.out.symm, HB.out⟩
set_option maxHeartbeats 4000000 in
theorem rr_src (m : Ms) (w : World) (hh : m.h.right = true) (ht : rightB m.ts m.tn = true) (h9 : ¬ m.h.t = 9) (a : eqP m.ak zeroP = true) (h11 : m.h.t = 11) (o : inB m.o (-32768) 32767 = true) (o1 : -32768 ≤ m.o ∧ m.o ≤ 32767) (s : inB m.src 0 255 = false) :
    Calls Tryd.prog 14 #[.agg (msA m)] w fun e w' => e = .returned (.bool m.right) ∧ Below w.heap.size w w' := by
  have HB := Lib.hid (Below.refl w.heap.size w)
  have HX := Lib.hid (show m.right = false by rw [right_ref]; unfold refR annR restR; simp [hh, ht, a, h11, o, s])
  have HH := Lib.hid hh
  have HT := Lib.hid ht
  have d9 : (m.h.t == 9) = false := by simp [h9]
  have d9b : (m.h.t != 9) = true := by simp [h9]
  have d11 : (m.h.t != 11) = false := by simp [h11]
  have HA := Lib.hid a
  have k5 : decide (m.o < -32768) = false := by simp; omega
  have k6 : decide (32767 < m.o) = false := by simp; omega
  have HS := Lib.hid s
  clear hh ht h9 a h11 o o1 s
  go_enter Tryd.func14, Tryd.ntmps14
  go_wp2_with (first | (refine ld_ 32 _ rfl rfl gK1 0 rfl K1.out [.int .i64 m.h.t, .int .i64 m.h.d, .int .i64 m.h.f, .int .i64 m.h.c, .int .u8 m.h.p.c.b0, .int .u8 m.h.p.c.b1, .int .u8 m.h.p.c.b2, .int .u8 m.h.p.c.b3, .int .u8 m.h.p.c.b4, .int .u8 m.h.p.c.b5, .int .u8 m.h.p.c.b6, .int .u8 m.h.p.c.b7, .int .i64 m.h.p.n, .int .i64 m.h.s, .int .i64 m.h.l] rfl Tryd.underlying32 rfl (by kernel_rfl) ?_; try simp only [Act.put, List.setIfInBounds_toArray, List.set_cons_zero, List.set_cons_succ]) | (refine big_box rfl 44 _ rfl (msA m) rfl (by kernel_rfl) ?_; intro gK1 wK1 hlK1 nK1 hbK1; replace HB := Lib.hid (bstep HB.out hbK1); have K1 := Lib.hid nK1; clear hlK1 nK1 hbK1))
  refine (rright5_any m.h _).mono ?_
  rintro e c1 ⟨rfl, hc1⟩
  replace K1 := Lib.hid ((K1.out).keptB hc1)
  replace HB := Lib.hid (bstep HB.out hc1)
  clear hc1
  rw [HH.out]
  go_wp2_with ((refine ld_ 38 _ rfl rfl gK1 15 rfl K1.out [.int .i64 m.ts, .int .i64 m.tn] rfl Tryd.underlying38 rfl (by kernel_rfl) ?_; try simp only [Act.put, List.setIfInBounds_toArray, List.set_cons_zero, List.set_cons_succ]))
  refine (rright_any m.ts m.tn _).mono ?_
  rintro e c2 ⟨rfl, hc2⟩
  replace K1 := Lib.hid ((K1.out).keptB hc2)
  replace HB := Lib.hid (bstep HB.out hc2)
  clear hc2
  rw [HT.out]
  go_upto_region 4 with (first | (refine big_fill rfl 42 _ _ rfl gK3 (setA m) rfl rfl K3.out (by kernel_rfl) (by kernel_rfl) (by kernel_rfl) ?_; intro vK3 nK3 tK3; have hbK3 := btouch AK3.out tK3 LK3.out; replace K1 := Lib.hid ((K1.out).keptB hbK3); replace HB := Lib.hid (bstep HB.out hbK3); replace K3 := Lib.hid nK3; clear nK3 tK3 hbK3 AK3 LK3; have x0 := (K1.out).reads (i := 0) (x := .int .i64 m.h.t) rfl; have x25 := (K1.out).reads (i := 25) (x := .int .i64 m.ak.n) rfl; have x26 := (K1.out).reads (i := 26) (x := .int .i64 m.o) rfl; have x59 := (K1.out).reads (i := 59) (x := .int .i64 m.src) rfl; have y0 := (K3.out).reads (i := 0) (x := .int .i64 m.p1) rfl; have y1 := (K3.out).reads (i := 1) (x := .int .i64 m.p2) rfl; have y2 := (K3.out).reads (i := 2) (x := .int .i64 m.q1) rfl; have y3 := (K3.out).reads (i := 3) (x := .int .i64 m.q2) rfl; have y4 := (K3.out).reads (i := 4) (x := .int .i64 m.q3) rfl; have y13 := (K3.out).reads (i := 13) (x := .int .i64 m.st) rfl) | (refine big_alloc rfl 42 rfl (#[.int .i64 0, .int .i64 0, .int .i64 0, .int .i64 0, .int .i64 0, .int .u8 0, .int .u8 0, .int .u8 0, .int .u8 0, .int .u8 0, .int .u8 0, .int .u8 0, .int .u8 0, .int .i64 0, .int .u8 0, .int .u8 0, .int .u8 0, .int .u8 0, .int .u8 0, .int .u8 0, .int .u8 0, .int .u8 0, .int .i64 0, .int .u8 0, .int .u8 0, .int .u8 0, .int .u8 0, .int .u8 0, .int .u8 0, .int .u8 0, .int .u8 0, .int .i64 0]) (by kernel_rfl) ?_; intro gK3 wK3 hlK3 nK3 hbK3; have K3 := Lib.hid nK3; have AK3 := Lib.hid hbK3; have LK3 := Lib.hid hlK3; clear hlK3 nK3 hbK3) | (refine ld_ 42 _ rfl rfl gK1 27 rfl K1.out [.int .i64 m.p1, .int .i64 m.p2, .int .i64 m.q1, .int .i64 m.q2, .int .i64 m.q3, .int .u8 m.gr.b0, .int .u8 m.gr.b1, .int .u8 m.gr.b2, .int .u8 m.gr.b3, .int .u8 m.gr.b4, .int .u8 m.gr.b5, .int .u8 m.gr.b6, .int .u8 m.gr.b7, .int .i64 m.st, .int .u8 m.sn.c.b0, .int .u8 m.sn.c.b1, .int .u8 m.sn.c.b2, .int .u8 m.sn.c.b3, .int .u8 m.sn.c.b4, .int .u8 m.sn.c.b5, .int .u8 m.sn.c.b6, .int .u8 m.sn.c.b7, .int .i64 m.sn.n, .int .u8 m.rc.c.b0, .int .u8 m.rc.c.b1, .int .u8 m.rc.c.b2, .int .u8 m.rc.c.b3, .int .u8 m.rc.c.b4, .int .u8 m.rc.c.b5, .int .u8 m.rc.c.b6, .int .u8 m.rc.c.b7, .int .i64 m.rc.n] rfl Tryd.underlying42 rfl (by kernel_rfl) ?_; try simp only [Act.put, List.setIfInBounds_toArray, List.set_cons_zero, List.set_cons_succ]))
  go_upto_region 6 with (first | (refine cm_ .neq 26 _ _ _ rfl rfl #[.int .u8 m.ak.c.b0, .int .u8 m.ak.c.b1, .int .u8 m.ak.c.b2, .int .u8 m.ak.c.b3, .int .u8 m.ak.c.b4, .int .u8 m.ak.c.b5, .int .u8 m.ak.c.b6, .int .u8 m.ak.c.b7, .int .i64 m.ak.n] #[.int .u8 0, .int .u8 0, .int .u8 0, .int .u8 0, .int .u8 0, .int .u8 0, .int .u8 0, .int .u8 0, .int .i64 0] rfl rfl (by kernel_rfl) false (nqz m.ak false HA.out) ?_; try simp only [Act.put, List.setIfInBounds_toArray, List.set_cons_zero, List.set_cons_succ]) | (refine bu_ 26 _ rfl rfl (#[.int .u8 0, .int .u8 0, .int .u8 0, .int .u8 0, .int .u8 0, .int .u8 0, .int .u8 0, .int .u8 0, .int .i64 0]) (by kernel_rfl) ?_; try simp only [Act.put, List.setIfInBounds_toArray, List.set_cons_zero, List.set_cons_succ]) | (refine ld_ 26 _ rfl rfl gK1 17 rfl K1.out [.int .u8 m.ak.c.b0, .int .u8 m.ak.c.b1, .int .u8 m.ak.c.b2, .int .u8 m.ak.c.b3, .int .u8 m.ak.c.b4, .int .u8 m.ak.c.b5, .int .u8 m.ak.c.b6, .int .u8 m.ak.c.b7, .int .i64 m.ak.n] rfl Tryd.underlying26 rfl (by kernel_rfl) ?_; try simp only [Act.put, List.setIfInBounds_toArray, List.set_cons_zero, List.set_cons_succ]))
  go_upto_region 8 with fail
  go_upto_region 10 with fail
  go_wp2_with fail
  refine (roctet_any m.src _).mono ?_
  rintro e wq ⟨rfl, rfl⟩
  rw [HS.out]
  go_wp2_with fail
  go_ret
  exact ⟨ret_bool' HX.out.symm, HB.out⟩
set_option maxHeartbeats 4000000 in
theorem rr_sn (m : Ms) (w : World) (hh : m.h.right = true) (ht : rightB m.ts m.tn = true) (h9 : ¬ m.h.t = 9) (a : eqP m.ak zeroP = true) (h11 : m.h.t = 11) (o : inB m.o (-32768) 32767 = true) (o1 : -32768 ≤ m.o ∧ m.o ≤ 32767) (s : inB m.src 0 255 = true) (n : eqP m.sn m.h.p = false) :
    Calls Tryd.prog 14 #[.agg (msA m)] w fun e w' => e = .returned (.bool m.right) ∧ Below w.heap.size w w' := by
  have HB := Lib.hid (Below.refl w.heap.size w)
  have HX := Lib.hid (show m.right = false by rw [right_ref]; unfold refR annR restR; simp [hh, ht, a, h11, o, s, n])
  have HH := Lib.hid hh
  have HT := Lib.hid ht
  have d9 : (m.h.t == 9) = false := by simp [h9]
  have d9b : (m.h.t != 9) = true := by simp [h9]
  have d11 : (m.h.t != 11) = false := by simp [h11]
  have HA := Lib.hid a
  have k5 : decide (m.o < -32768) = false := by simp; omega
  have k6 : decide (32767 < m.o) = false := by simp; omega
  have HS := Lib.hid s
  have HN := Lib.hid n
  clear hh ht h9 a h11 o o1 s n
  go_enter Tryd.func14, Tryd.ntmps14
  go_wp2_with (first | (refine ld_ 32 _ rfl rfl gK1 0 rfl K1.out [.int .i64 m.h.t, .int .i64 m.h.d, .int .i64 m.h.f, .int .i64 m.h.c, .int .u8 m.h.p.c.b0, .int .u8 m.h.p.c.b1, .int .u8 m.h.p.c.b2, .int .u8 m.h.p.c.b3, .int .u8 m.h.p.c.b4, .int .u8 m.h.p.c.b5, .int .u8 m.h.p.c.b6, .int .u8 m.h.p.c.b7, .int .i64 m.h.p.n, .int .i64 m.h.s, .int .i64 m.h.l] rfl Tryd.underlying32 rfl (by kernel_rfl) ?_; try simp only [Act.put, List.setIfInBounds_toArray, List.set_cons_zero, List.set_cons_succ]) | (refine big_box rfl 44 _ rfl (msA m) rfl (by kernel_rfl) ?_; intro gK1 wK1 hlK1 nK1 hbK1; replace HB := Lib.hid (bstep HB.out hbK1); have K1 := Lib.hid nK1; clear hlK1 nK1 hbK1))
  refine (rright5_any m.h _).mono ?_
  rintro e c1 ⟨rfl, hc1⟩
  replace K1 := Lib.hid ((K1.out).keptB hc1)
  replace HB := Lib.hid (bstep HB.out hc1)
  clear hc1
  rw [HH.out]
  go_wp2_with ((refine ld_ 38 _ rfl rfl gK1 15 rfl K1.out [.int .i64 m.ts, .int .i64 m.tn] rfl Tryd.underlying38 rfl (by kernel_rfl) ?_; try simp only [Act.put, List.setIfInBounds_toArray, List.set_cons_zero, List.set_cons_succ]))
  refine (rright_any m.ts m.tn _).mono ?_
  rintro e c2 ⟨rfl, hc2⟩
  replace K1 := Lib.hid ((K1.out).keptB hc2)
  replace HB := Lib.hid (bstep HB.out hc2)
  clear hc2
  rw [HT.out]
  go_upto_region 4 with (first | (refine big_fill rfl 42 _ _ rfl gK3 (setA m) rfl rfl K3.out (by kernel_rfl) (by kernel_rfl) (by kernel_rfl) ?_; intro vK3 nK3 tK3; have hbK3 := btouch AK3.out tK3 LK3.out; replace K1 := Lib.hid ((K1.out).keptB hbK3); replace HB := Lib.hid (bstep HB.out hbK3); replace K3 := Lib.hid nK3; clear nK3 tK3 hbK3 AK3 LK3; have x0 := (K1.out).reads (i := 0) (x := .int .i64 m.h.t) rfl; have x25 := (K1.out).reads (i := 25) (x := .int .i64 m.ak.n) rfl; have x26 := (K1.out).reads (i := 26) (x := .int .i64 m.o) rfl; have x59 := (K1.out).reads (i := 59) (x := .int .i64 m.src) rfl; have y0 := (K3.out).reads (i := 0) (x := .int .i64 m.p1) rfl; have y1 := (K3.out).reads (i := 1) (x := .int .i64 m.p2) rfl; have y2 := (K3.out).reads (i := 2) (x := .int .i64 m.q1) rfl; have y3 := (K3.out).reads (i := 3) (x := .int .i64 m.q2) rfl; have y4 := (K3.out).reads (i := 4) (x := .int .i64 m.q3) rfl; have y13 := (K3.out).reads (i := 13) (x := .int .i64 m.st) rfl) | (refine big_alloc rfl 42 rfl (#[.int .i64 0, .int .i64 0, .int .i64 0, .int .i64 0, .int .i64 0, .int .u8 0, .int .u8 0, .int .u8 0, .int .u8 0, .int .u8 0, .int .u8 0, .int .u8 0, .int .u8 0, .int .i64 0, .int .u8 0, .int .u8 0, .int .u8 0, .int .u8 0, .int .u8 0, .int .u8 0, .int .u8 0, .int .u8 0, .int .i64 0, .int .u8 0, .int .u8 0, .int .u8 0, .int .u8 0, .int .u8 0, .int .u8 0, .int .u8 0, .int .u8 0, .int .i64 0]) (by kernel_rfl) ?_; intro gK3 wK3 hlK3 nK3 hbK3; have K3 := Lib.hid nK3; have AK3 := Lib.hid hbK3; have LK3 := Lib.hid hlK3; clear hlK3 nK3 hbK3) | (refine ld_ 42 _ rfl rfl gK1 27 rfl K1.out [.int .i64 m.p1, .int .i64 m.p2, .int .i64 m.q1, .int .i64 m.q2, .int .i64 m.q3, .int .u8 m.gr.b0, .int .u8 m.gr.b1, .int .u8 m.gr.b2, .int .u8 m.gr.b3, .int .u8 m.gr.b4, .int .u8 m.gr.b5, .int .u8 m.gr.b6, .int .u8 m.gr.b7, .int .i64 m.st, .int .u8 m.sn.c.b0, .int .u8 m.sn.c.b1, .int .u8 m.sn.c.b2, .int .u8 m.sn.c.b3, .int .u8 m.sn.c.b4, .int .u8 m.sn.c.b5, .int .u8 m.sn.c.b6, .int .u8 m.sn.c.b7, .int .i64 m.sn.n, .int .u8 m.rc.c.b0, .int .u8 m.rc.c.b1, .int .u8 m.rc.c.b2, .int .u8 m.rc.c.b3, .int .u8 m.rc.c.b4, .int .u8 m.rc.c.b5, .int .u8 m.rc.c.b6, .int .u8 m.rc.c.b7, .int .i64 m.rc.n] rfl Tryd.underlying42 rfl (by kernel_rfl) ?_; try simp only [Act.put, List.setIfInBounds_toArray, List.set_cons_zero, List.set_cons_succ]))
  go_upto_region 6 with (first | (refine cm_ .neq 26 _ _ _ rfl rfl #[.int .u8 m.ak.c.b0, .int .u8 m.ak.c.b1, .int .u8 m.ak.c.b2, .int .u8 m.ak.c.b3, .int .u8 m.ak.c.b4, .int .u8 m.ak.c.b5, .int .u8 m.ak.c.b6, .int .u8 m.ak.c.b7, .int .i64 m.ak.n] #[.int .u8 0, .int .u8 0, .int .u8 0, .int .u8 0, .int .u8 0, .int .u8 0, .int .u8 0, .int .u8 0, .int .i64 0] rfl rfl (by kernel_rfl) false (nqz m.ak false HA.out) ?_; try simp only [Act.put, List.setIfInBounds_toArray, List.set_cons_zero, List.set_cons_succ]) | (refine bu_ 26 _ rfl rfl (#[.int .u8 0, .int .u8 0, .int .u8 0, .int .u8 0, .int .u8 0, .int .u8 0, .int .u8 0, .int .u8 0, .int .i64 0]) (by kernel_rfl) ?_; try simp only [Act.put, List.setIfInBounds_toArray, List.set_cons_zero, List.set_cons_succ]) | (refine ld_ 26 _ rfl rfl gK1 17 rfl K1.out [.int .u8 m.ak.c.b0, .int .u8 m.ak.c.b1, .int .u8 m.ak.c.b2, .int .u8 m.ak.c.b3, .int .u8 m.ak.c.b4, .int .u8 m.ak.c.b5, .int .u8 m.ak.c.b6, .int .u8 m.ak.c.b7, .int .i64 m.ak.n] rfl Tryd.underlying26 rfl (by kernel_rfl) ?_; try simp only [Act.put, List.setIfInBounds_toArray, List.set_cons_zero, List.set_cons_succ]))
  go_upto_region 8 with fail
  go_upto_region 10 with fail
  go_wp2_with fail
  refine (roctet_any m.src _).mono ?_
  rintro e wq ⟨rfl, rfl⟩
  rw [HS.out]
  go_wp2_with (first | (refine cm_ .neq 26 _ _ _ rfl rfl #[.int .u8 m.sn.c.b0, .int .u8 m.sn.c.b1, .int .u8 m.sn.c.b2, .int .u8 m.sn.c.b3, .int .u8 m.sn.c.b4, .int .u8 m.sn.c.b5, .int .u8 m.sn.c.b6, .int .u8 m.sn.c.b7, .int .i64 m.sn.n] #[.int .u8 m.h.p.c.b0, .int .u8 m.h.p.c.b1, .int .u8 m.h.p.c.b2, .int .u8 m.h.p.c.b3, .int .u8 m.h.p.c.b4, .int .u8 m.h.p.c.b5, .int .u8 m.h.p.c.b6, .int .u8 m.h.p.c.b7, .int .i64 m.h.p.n] rfl rfl (by kernel_rfl) true (nqp m.sn m.h.p true HN.out) ?_; try simp only [Act.put, List.setIfInBounds_toArray, List.set_cons_zero, List.set_cons_succ]) | (refine ld_ 26 _ rfl rfl gK1 4 rfl K1.out [.int .u8 m.h.p.c.b0, .int .u8 m.h.p.c.b1, .int .u8 m.h.p.c.b2, .int .u8 m.h.p.c.b3, .int .u8 m.h.p.c.b4, .int .u8 m.h.p.c.b5, .int .u8 m.h.p.c.b6, .int .u8 m.h.p.c.b7, .int .i64 m.h.p.n] rfl Tryd.underlying26 rfl (by kernel_rfl) ?_; try simp only [Act.put, List.setIfInBounds_toArray, List.set_cons_zero, List.set_cons_succ]) | (refine ld_ 26 _ rfl rfl gK3 14 rfl K3.out [.int .u8 m.sn.c.b0, .int .u8 m.sn.c.b1, .int .u8 m.sn.c.b2, .int .u8 m.sn.c.b3, .int .u8 m.sn.c.b4, .int .u8 m.sn.c.b5, .int .u8 m.sn.c.b6, .int .u8 m.sn.c.b7, .int .i64 m.sn.n] rfl Tryd.underlying26 rfl (by kernel_rfl) ?_; try simp only [Act.put, List.setIfInBounds_toArray, List.set_cons_zero, List.set_cons_succ]))
  go_ret
  exact ⟨ret_bool' HX.out.symm, HB.out⟩
set_option maxHeartbeats 4000000 in
theorem rr_rc (m : Ms) (w : World) (hh : m.h.right = true) (ht : rightB m.ts m.tn = true) (h9 : ¬ m.h.t = 9) (a : eqP m.ak zeroP = true) (h11 : m.h.t = 11) (o : inB m.o (-32768) 32767 = true) (o1 : -32768 ≤ m.o ∧ m.o ≤ 32767) (s : inB m.src 0 255 = true) (n : eqP m.sn m.h.p = true) (r : eqP m.rc zeroP = false) :
    Calls Tryd.prog 14 #[.agg (msA m)] w fun e w' => e = .returned (.bool m.right) ∧ Below w.heap.size w w' := by
  have HB := Lib.hid (Below.refl w.heap.size w)
  have HX := Lib.hid (show m.right = false by rw [right_ref]; unfold refR annR restR; simp [hh, ht, a, h11, o, s, n, r])
  have HH := Lib.hid hh
  have HT := Lib.hid ht
  have d9 : (m.h.t == 9) = false := by simp [h9]
  have d9b : (m.h.t != 9) = true := by simp [h9]
  have d11 : (m.h.t != 11) = false := by simp [h11]
  have HA := Lib.hid a
  have k5 : decide (m.o < -32768) = false := by simp; omega
  have k6 : decide (32767 < m.o) = false := by simp; omega
  have HS := Lib.hid s
  have HN := Lib.hid n
  have HC := Lib.hid r
  clear hh ht h9 a h11 o o1 s n r
  go_enter Tryd.func14, Tryd.ntmps14
  go_wp2_with (first | (refine ld_ 32 _ rfl rfl gK1 0 rfl K1.out [.int .i64 m.h.t, .int .i64 m.h.d, .int .i64 m.h.f, .int .i64 m.h.c, .int .u8 m.h.p.c.b0, .int .u8 m.h.p.c.b1, .int .u8 m.h.p.c.b2, .int .u8 m.h.p.c.b3, .int .u8 m.h.p.c.b4, .int .u8 m.h.p.c.b5, .int .u8 m.h.p.c.b6, .int .u8 m.h.p.c.b7, .int .i64 m.h.p.n, .int .i64 m.h.s, .int .i64 m.h.l] rfl Tryd.underlying32 rfl (by kernel_rfl) ?_; try simp only [Act.put, List.setIfInBounds_toArray, List.set_cons_zero, List.set_cons_succ]) | (refine big_box rfl 44 _ rfl (msA m) rfl (by kernel_rfl) ?_; intro gK1 wK1 hlK1 nK1 hbK1; replace HB := Lib.hid (bstep HB.out hbK1); have K1 := Lib.hid nK1; clear hlK1 nK1 hbK1))
  refine (rright5_any m.h _).mono ?_
  rintro e c1 ⟨rfl, hc1⟩
  replace K1 := Lib.hid ((K1.out).keptB hc1)
  replace HB := Lib.hid (bstep HB.out hc1)
  clear hc1
  rw [HH.out]
  go_wp2_with ((refine ld_ 38 _ rfl rfl gK1 15 rfl K1.out [.int .i64 m.ts, .int .i64 m.tn] rfl Tryd.underlying38 rfl (by kernel_rfl) ?_; try simp only [Act.put, List.setIfInBounds_toArray, List.set_cons_zero, List.set_cons_succ]))
  refine (rright_any m.ts m.tn _).mono ?_
  rintro e c2 ⟨rfl, hc2⟩
  replace K1 := Lib.hid ((K1.out).keptB hc2)
  replace HB := Lib.hid (bstep HB.out hc2)
  clear hc2
  rw [HT.out]
  go_upto_region 4 with (first | (refine big_fill rfl 42 _ _ rfl gK3 (setA m) rfl rfl K3.out (by kernel_rfl) (by kernel_rfl) (by kernel_rfl) ?_; intro vK3 nK3 tK3; have hbK3 := btouch AK3.out tK3 LK3.out; replace K1 := Lib.hid ((K1.out).keptB hbK3); replace HB := Lib.hid (bstep HB.out hbK3); replace K3 := Lib.hid nK3; clear nK3 tK3 hbK3 AK3 LK3; have x0 := (K1.out).reads (i := 0) (x := .int .i64 m.h.t) rfl; have x25 := (K1.out).reads (i := 25) (x := .int .i64 m.ak.n) rfl; have x26 := (K1.out).reads (i := 26) (x := .int .i64 m.o) rfl; have x59 := (K1.out).reads (i := 59) (x := .int .i64 m.src) rfl; have y0 := (K3.out).reads (i := 0) (x := .int .i64 m.p1) rfl; have y1 := (K3.out).reads (i := 1) (x := .int .i64 m.p2) rfl; have y2 := (K3.out).reads (i := 2) (x := .int .i64 m.q1) rfl; have y3 := (K3.out).reads (i := 3) (x := .int .i64 m.q2) rfl; have y4 := (K3.out).reads (i := 4) (x := .int .i64 m.q3) rfl; have y13 := (K3.out).reads (i := 13) (x := .int .i64 m.st) rfl) | (refine big_alloc rfl 42 rfl (#[.int .i64 0, .int .i64 0, .int .i64 0, .int .i64 0, .int .i64 0, .int .u8 0, .int .u8 0, .int .u8 0, .int .u8 0, .int .u8 0, .int .u8 0, .int .u8 0, .int .u8 0, .int .i64 0, .int .u8 0, .int .u8 0, .int .u8 0, .int .u8 0, .int .u8 0, .int .u8 0, .int .u8 0, .int .u8 0, .int .i64 0, .int .u8 0, .int .u8 0, .int .u8 0, .int .u8 0, .int .u8 0, .int .u8 0, .int .u8 0, .int .u8 0, .int .i64 0]) (by kernel_rfl) ?_; intro gK3 wK3 hlK3 nK3 hbK3; have K3 := Lib.hid nK3; have AK3 := Lib.hid hbK3; have LK3 := Lib.hid hlK3; clear hlK3 nK3 hbK3) | (refine ld_ 42 _ rfl rfl gK1 27 rfl K1.out [.int .i64 m.p1, .int .i64 m.p2, .int .i64 m.q1, .int .i64 m.q2, .int .i64 m.q3, .int .u8 m.gr.b0, .int .u8 m.gr.b1, .int .u8 m.gr.b2, .int .u8 m.gr.b3, .int .u8 m.gr.b4, .int .u8 m.gr.b5, .int .u8 m.gr.b6, .int .u8 m.gr.b7, .int .i64 m.st, .int .u8 m.sn.c.b0, .int .u8 m.sn.c.b1, .int .u8 m.sn.c.b2, .int .u8 m.sn.c.b3, .int .u8 m.sn.c.b4, .int .u8 m.sn.c.b5, .int .u8 m.sn.c.b6, .int .u8 m.sn.c.b7, .int .i64 m.sn.n, .int .u8 m.rc.c.b0, .int .u8 m.rc.c.b1, .int .u8 m.rc.c.b2, .int .u8 m.rc.c.b3, .int .u8 m.rc.c.b4, .int .u8 m.rc.c.b5, .int .u8 m.rc.c.b6, .int .u8 m.rc.c.b7, .int .i64 m.rc.n] rfl Tryd.underlying42 rfl (by kernel_rfl) ?_; try simp only [Act.put, List.setIfInBounds_toArray, List.set_cons_zero, List.set_cons_succ]))
  go_upto_region 6 with (first | (refine cm_ .neq 26 _ _ _ rfl rfl #[.int .u8 m.ak.c.b0, .int .u8 m.ak.c.b1, .int .u8 m.ak.c.b2, .int .u8 m.ak.c.b3, .int .u8 m.ak.c.b4, .int .u8 m.ak.c.b5, .int .u8 m.ak.c.b6, .int .u8 m.ak.c.b7, .int .i64 m.ak.n] #[.int .u8 0, .int .u8 0, .int .u8 0, .int .u8 0, .int .u8 0, .int .u8 0, .int .u8 0, .int .u8 0, .int .i64 0] rfl rfl (by kernel_rfl) false (nqz m.ak false HA.out) ?_; try simp only [Act.put, List.setIfInBounds_toArray, List.set_cons_zero, List.set_cons_succ]) | (refine bu_ 26 _ rfl rfl (#[.int .u8 0, .int .u8 0, .int .u8 0, .int .u8 0, .int .u8 0, .int .u8 0, .int .u8 0, .int .u8 0, .int .i64 0]) (by kernel_rfl) ?_; try simp only [Act.put, List.setIfInBounds_toArray, List.set_cons_zero, List.set_cons_succ]) | (refine ld_ 26 _ rfl rfl gK1 17 rfl K1.out [.int .u8 m.ak.c.b0, .int .u8 m.ak.c.b1, .int .u8 m.ak.c.b2, .int .u8 m.ak.c.b3, .int .u8 m.ak.c.b4, .int .u8 m.ak.c.b5, .int .u8 m.ak.c.b6, .int .u8 m.ak.c.b7, .int .i64 m.ak.n] rfl Tryd.underlying26 rfl (by kernel_rfl) ?_; try simp only [Act.put, List.setIfInBounds_toArray, List.set_cons_zero, List.set_cons_succ]))
  go_upto_region 8 with fail
  go_upto_region 10 with fail
  go_wp2_with fail
  refine (roctet_any m.src _).mono ?_
  rintro e wq ⟨rfl, rfl⟩
  rw [HS.out]
  go_wp2_with (first | (refine cm_ .neq 26 _ _ _ rfl rfl #[.int .u8 m.rc.c.b0, .int .u8 m.rc.c.b1, .int .u8 m.rc.c.b2, .int .u8 m.rc.c.b3, .int .u8 m.rc.c.b4, .int .u8 m.rc.c.b5, .int .u8 m.rc.c.b6, .int .u8 m.rc.c.b7, .int .i64 m.rc.n] #[.int .u8 0, .int .u8 0, .int .u8 0, .int .u8 0, .int .u8 0, .int .u8 0, .int .u8 0, .int .u8 0, .int .i64 0] rfl rfl (by kernel_rfl) true (nqz m.rc true HC.out) ?_; try simp only [Act.put, List.setIfInBounds_toArray, List.set_cons_zero, List.set_cons_succ]) | (refine bu_ 26 _ rfl rfl (#[.int .u8 0, .int .u8 0, .int .u8 0, .int .u8 0, .int .u8 0, .int .u8 0, .int .u8 0, .int .u8 0, .int .i64 0]) (by kernel_rfl) ?_; try simp only [Act.put, List.setIfInBounds_toArray, List.set_cons_zero, List.set_cons_succ]) | (refine ld_ 26 _ rfl rfl gK3 23 rfl K3.out [.int .u8 m.rc.c.b0, .int .u8 m.rc.c.b1, .int .u8 m.rc.c.b2, .int .u8 m.rc.c.b3, .int .u8 m.rc.c.b4, .int .u8 m.rc.c.b5, .int .u8 m.rc.c.b6, .int .u8 m.rc.c.b7, .int .i64 m.rc.n] rfl Tryd.underlying26 rfl (by kernel_rfl) ?_; try simp only [Act.put, List.setIfInBounds_toArray, List.set_cons_zero, List.set_cons_succ]) | (refine cm_ .neq 26 _ _ _ rfl rfl #[.int .u8 m.sn.c.b0, .int .u8 m.sn.c.b1, .int .u8 m.sn.c.b2, .int .u8 m.sn.c.b3, .int .u8 m.sn.c.b4, .int .u8 m.sn.c.b5, .int .u8 m.sn.c.b6, .int .u8 m.sn.c.b7, .int .i64 m.sn.n] #[.int .u8 m.h.p.c.b0, .int .u8 m.h.p.c.b1, .int .u8 m.h.p.c.b2, .int .u8 m.h.p.c.b3, .int .u8 m.h.p.c.b4, .int .u8 m.h.p.c.b5, .int .u8 m.h.p.c.b6, .int .u8 m.h.p.c.b7, .int .i64 m.h.p.n] rfl rfl (by kernel_rfl) false (nqp m.sn m.h.p false HN.out) ?_; try simp only [Act.put, List.setIfInBounds_toArray, List.set_cons_zero, List.set_cons_succ]) | (refine ld_ 26 _ rfl rfl gK1 4 rfl K1.out [.int .u8 m.h.p.c.b0, .int .u8 m.h.p.c.b1, .int .u8 m.h.p.c.b2, .int .u8 m.h.p.c.b3, .int .u8 m.h.p.c.b4, .int .u8 m.h.p.c.b5, .int .u8 m.h.p.c.b6, .int .u8 m.h.p.c.b7, .int .i64 m.h.p.n] rfl Tryd.underlying26 rfl (by kernel_rfl) ?_; try simp only [Act.put, List.setIfInBounds_toArray, List.set_cons_zero, List.set_cons_succ]) | (refine ld_ 26 _ rfl rfl gK3 14 rfl K3.out [.int .u8 m.sn.c.b0, .int .u8 m.sn.c.b1, .int .u8 m.sn.c.b2, .int .u8 m.sn.c.b3, .int .u8 m.sn.c.b4, .int .u8 m.sn.c.b5, .int .u8 m.sn.c.b6, .int .u8 m.sn.c.b7, .int .i64 m.sn.n] rfl Tryd.underlying26 rfl (by kernel_rfl) ?_; try simp only [Act.put, List.setIfInBounds_toArray, List.set_cons_zero, List.set_cons_succ]))
  go_ret
  exact ⟨ret_bool' HX.out.symm, HB.out⟩

end Go.Proofs.YtifhjmhekapaoaaDoor
