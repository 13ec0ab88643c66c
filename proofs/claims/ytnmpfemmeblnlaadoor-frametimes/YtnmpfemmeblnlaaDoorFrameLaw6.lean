/- The walk over FrameTimes. -/
import Derived.Test.YtnmpfemmeblnlaaDoorFrameAlive
namespace Go.Proofs.YtnmpfemmeblnlaaDoor
set_option maxRecDepth 100000
open Go.RowKit
set_option linter.unusedVariables false

/-- a message at another time -/
def atT (a : Ms) (ts tn : Int) : Ms := ⟨a.h, ts, tn, a.ak, a.o, a.p1, a.p2, a.q1, a.q2, a.q3, a.gr, a.st, a.sn, a.rc, a.src⟩
theorem atT_tail (a : Ms) (ts tn : Int) : tailL (atT a ts tn) = tailL a := rfl
theorem slice_lo {L C : Nat} (a : Addr) (hk : 44 ≤ L) (hC : L ≤ C) (w : World) (h0 : 44 ≠ C) : (Instr.sliceAt 36 (.slice (some a) L C) (some (.int .i64 44)) none none).run Tryd.prog w = .ok (.slice (some (a.add 44)) (L - 44) (C - 44)) w := by
  rw [run_sliceAt_slice _ _ _ _ _ _ (by kernel_rfl), run_slice_l w _ _ _ _ (by kernel_rfl) .i64 44 (by omega) (by omega)]
  show Result.ok (sliced _ _ _ _ _) w = _
  unfold sliced
  rw [if_neg (by omega)]
  rfl
theorem slice_end {L : Nat} (a : Addr) (w : World) : (Instr.sliceAt 36 (.slice (some a) L L) (some (.int .i64 (L : Int))) none none).run Tryd.prog w = .ok (.slice (some a) 0 0) w := by
  rw [run_sliceAt_slice _ _ _ _ _ _ (by kernel_rfl), run_slice_l w _ _ _ _ (by kernel_rfl) .i64 (L : Int) (by omega) (by omega)]
  show Result.ok (sliced _ _ _ _ _) w = _
  unfold sliced
  rw [if_pos (by simp)]
  simp
/-- where the bytes behind the 44th lie -/
theorem slice_tail {L C : Nat} (a : Addr) (hk : 44 ≤ L) (hC : L ≤ C) : ∃ X, (∀ w, (Instr.sliceAt 36 (.slice (some a) L C) (some (.int .i64 44)) none none).run Tryd.prog w = .ok (.slice (some X) (L - 44) (C - 44)) w) ∧ ∀ w zs, zs.length = L → BytesAt w a zs → BytesAt w X (zs.drop 44) := by
  by_cases h : 44 = C
  · obtain rfl : L = 44 := by omega
    subst h
    refine ⟨a, fun w => slice_end a w, fun w zs hz hb i hi => ?_⟩
    rw [List.length_drop] at hi
    omega
  · refine ⟨a.add 44, fun w => slice_lo a hk hC w h, fun w zs hz hb => hb.sub 44 (fun i hi => by rw [List.getElem?_drop])⟩
theorem slice_hi {L C : Nat} (a : Addr) (hk : 34 ≤ L) (hC : L ≤ C) (w : World) : (Instr.sliceAt 36 (.slice (some a) L C) none (some (.int .i64 34)) none).run Tryd.prog w = .ok (.slice (some a) 34 C) w := by
  rw [run_sliceAt_slice _ _ _ _ _ _ (by kernel_rfl), run_slice_h w _ _ _ _ (by kernel_rfl) .i64 34 (by omega) (by omega)]
  show Result.ok (sliced _ _ _ _ _) w = _
  unfold sliced
  rw [if_neg (by omega)]
  rfl
theorem BytesAt.take_ {w : World} {a : Addr} {zs : List Int} (h : BytesAt w a zs) (n : Nat) : BytesAt w a (zs.take n) := by
  intro i hi
  rw [List.length_take] at hi
  rw [h i (by omega)]
  simp only [List.getD]
  rw [List.getElem?_take, if_pos (by omega)]
set_option maxHeartbeats 4000000 in
theorem times6_nn (a : Ms) (ts tn : Int) (fa0 : -9223372036854775808 ≤ a.h.f) (fa1 : a.h.f ≤ 9223372036854775807) (ca0 : -9223372036854775808 ≤ a.h.c) (ca1 : a.h.c ≤ 9223372036854775807) (oa1 : a.h.p.c.ok) (oa2 : a.ak.c.ok) (oa3 : a.gr.ok) (w : World) (hl : Lens w) (ra : a.right = false) (rb : (atT a ts tn).right = false) :
    Calls Tryd.prog 8 #[.agg (msA a), .agg #[.int .i64 ts, .int .i64 tn]] w fun e w' => e = .returned (.bool true) ∧ Below w.heap.size w w' := by
  have HB := Lib.hid (Below.refl w.heap.size w)
  have LN := Lib.hid hl
  have HAR := Lib.hid ra
  have HBR := Lib.hid rb
  clear hl ra rb
  go_enter Tryd.func8, Tryd.ntmps8
  go_wp2_with (first | (refine big_whole rfl 35 _ rfl gK1 rfl K1.out Tryd.underlying35 rfl (by kernel_rfl) ?_) | (refine big_box rfl 29 _ rfl (#[.int .i64 ts, .int .i64 tn]) rfl (by kernel_rfl) ?_; intro gK2 wK2 hlK2 nK2 hbK2; have NK := Lib.hid (show gK1 ≠ gK2 by have := (K1.out).inside; omega); replace LN := Lib.hid ((LN.out).keptB hbK2); replace K1 := Lib.hid ((K1.out).keptB hbK2); replace HB := Lib.hid (bstep HB.out hbK2); have K2 := Lib.hid nK2; clear hlK2 nK2 hbK2) | (refine big_box rfl 35 _ rfl (msA a) rfl (by kernel_rfl) ?_; intro gK1 wK1 hlK1 nK1 hbK1; have NL := Lib.hid (show 0 ≠ gK1 by have := (LN.out).inside; omega); have LK := Lib.hid (show w.heap.size ≤ gK1 from Nat.le_trans (HB.out).size hlK1); replace LN := Lib.hid ((LN.out).keptB hbK1); replace HB := Lib.hid (bstep HB.out hbK1); have K1 := Lib.hid nK1; clear hlK1 nK1 hbK1))
  refine (own6_any a _).mono ?_
  rintro e c1 ⟨rfl, hc1⟩
  replace LN := Lib.hid ((LN.out).keptB hc1)
  replace K1 := Lib.hid ((K1.out).keptB hc1)
  replace K2 := Lib.hid ((K2.out).keptB hc1)
  replace HB := Lib.hid (bstep HB.out hc1)
  clear hc1
  go_wp2_with fail
  refine (encM_no a _ LN.out fa0 fa1 HAR.out).mono ?_
  rintro e c2 ⟨rfl, hc2⟩
  replace LN := Lib.hid ((LN.out).keptB hc2)
  replace K1 := Lib.hid ((K1.out).keptB hc2)
  replace K2 := Lib.hid ((K2.out).keptB hc2)
  replace HB := Lib.hid (bstep HB.out hc2)
  clear hc2
  go_wp2_with (first | (refine big_whole rfl 35 _ rfl gK1 rfl K1.out Tryd.underlying35 rfl (by kernel_rfl) ?_) | (refine big_store rfl 29 _ _ rfl gK1 15 [.int .i64 ts, .int .i64 tn] rfl rfl K1.out (by kernel_rfl) (by kernel_rfl) (of_decide_eq_true (by kernel_rfl)) (msA (atT a ts tn)) (by kernel_rfl) ?_; intro vT nK1 tK1; replace K1 := Lib.hid nK1; replace K2 := Lib.hid ((K2.out).touch tK1 (Ne.symm NK.out)); replace LN := Lib.hid (lens_touch LN.out tK1 NL.out); replace HB := Lib.hid (btouch HB.out tK1 LK.out); clear nK1 tK1) | (refine big_whole rfl 29 _ rfl gK2 rfl K2.out Tryd.underlying29 rfl (by kernel_rfl) ?_))
  refine (own6_any (atT a ts tn) _).mono ?_
  rintro e c3 ⟨rfl, hc3⟩
  replace LN := Lib.hid ((LN.out).keptB hc3)
  replace K1 := Lib.hid ((K1.out).keptB hc3)
  replace K2 := Lib.hid ((K2.out).keptB hc3)
  replace HB := Lib.hid (bstep HB.out hc3)
  clear hc3
  go_wp2_with fail
  refine (encM_no (atT a ts tn) _ LN.out fa0 fa1 HBR.out).mono ?_
  rintro e c4 ⟨rfl, hc4⟩
  replace LN := Lib.hid ((LN.out).keptB hc4)
  replace K1 := Lib.hid ((K1.out).keptB hc4)
  replace K2 := Lib.hid ((K2.out).keptB hc4)
  replace HB := Lib.hid (bstep HB.out hc4)
  clear hc4
  go_wp2_with fail
  refine (alive6_any _ LN.out).mono ?_
  rintro e c5 ⟨rfl, hc5⟩
  replace LN := Lib.hid ((LN.out).keptB hc5)
  replace K1 := Lib.hid ((K1.out).keptB hc5)
  replace K2 := Lib.hid ((K2.out).keptB hc5)
  replace HB := Lib.hid (bstep HB.out hc5)
  clear hc5
  go_wp2
  go_ret
  exact ⟨rfl, HB.out⟩
set_option maxHeartbeats 4000000 in
theorem times6_ny (a : Ms) (ts tn : Int) (fa0 : -9223372036854775808 ≤ a.h.f) (fa1 : a.h.f ≤ 9223372036854775807) (ca0 : -9223372036854775808 ≤ a.h.c) (ca1 : a.h.c ≤ 9223372036854775807) (oa1 : a.h.p.c.ok) (oa2 : a.ak.c.ok) (oa3 : a.gr.ok) (w : World) (hl : Lens w) (ra : a.right = false) (rb : (atT a ts tn).right = true) :
    Calls Tryd.prog 8 #[.agg (msA a), .agg #[.int .i64 ts, .int .i64 tn]] w fun e w' => e = .returned (.bool true) ∧ Below w.heap.size w w' := by
  have HB := Lib.hid (Below.refl w.heap.size w)
  have LN := Lib.hid hl
  have HAR := Lib.hid ra
  have HBR := Lib.hid rb
  clear hl ra rb
  obtain ⟨ys, hys⟩ : ∃ ys, encM (atT a ts tn) = ys := ⟨_, rfl⟩
  obtain ⟨M, hM⟩ : ∃ M, ys.length = M := ⟨_, rfl⟩
  have HBE := Lib.hid hys
  have HBN := Lib.hid hM
  clear hys hM
  go_enter Tryd.func8, Tryd.ntmps8
  go_wp2_with (first | (refine big_whole rfl 35 _ rfl gK1 rfl K1.out Tryd.underlying35 rfl (by kernel_rfl) ?_) | (refine big_box rfl 29 _ rfl (#[.int .i64 ts, .int .i64 tn]) rfl (by kernel_rfl) ?_; intro gK2 wK2 hlK2 nK2 hbK2; have NK := Lib.hid (show gK1 ≠ gK2 by have := (K1.out).inside; omega); replace LN := Lib.hid ((LN.out).keptB hbK2); replace K1 := Lib.hid ((K1.out).keptB hbK2); replace HB := Lib.hid (bstep HB.out hbK2); have K2 := Lib.hid nK2; clear hlK2 nK2 hbK2) | (refine big_box rfl 35 _ rfl (msA a) rfl (by kernel_rfl) ?_; intro gK1 wK1 hlK1 nK1 hbK1; have NL := Lib.hid (show 0 ≠ gK1 by have := (LN.out).inside; omega); have LK := Lib.hid (show w.heap.size ≤ gK1 from Nat.le_trans (HB.out).size hlK1); replace LN := Lib.hid ((LN.out).keptB hbK1); replace HB := Lib.hid (bstep HB.out hbK1); have K1 := Lib.hid nK1; clear hlK1 nK1 hbK1))
  refine (own6_any a _).mono ?_
  rintro e c1 ⟨rfl, hc1⟩
  replace LN := Lib.hid ((LN.out).keptB hc1)
  replace K1 := Lib.hid ((K1.out).keptB hc1)
  replace K2 := Lib.hid ((K2.out).keptB hc1)
  replace HB := Lib.hid (bstep HB.out hc1)
  clear hc1
  go_wp2_with fail
  refine (encM_no a _ LN.out fa0 fa1 HAR.out).mono ?_
  rintro e c2 ⟨rfl, hc2⟩
  replace LN := Lib.hid ((LN.out).keptB hc2)
  replace K1 := Lib.hid ((K1.out).keptB hc2)
  replace K2 := Lib.hid ((K2.out).keptB hc2)
  replace HB := Lib.hid (bstep HB.out hc2)
  clear hc2
  go_wp2_with (first | (refine big_whole rfl 35 _ rfl gK1 rfl K1.out Tryd.underlying35 rfl (by kernel_rfl) ?_) | (refine big_store rfl 29 _ _ rfl gK1 15 [.int .i64 ts, .int .i64 tn] rfl rfl K1.out (by kernel_rfl) (by kernel_rfl) (of_decide_eq_true (by kernel_rfl)) (msA (atT a ts tn)) (by kernel_rfl) ?_; intro vT nK1 tK1; replace K1 := Lib.hid nK1; replace K2 := Lib.hid ((K2.out).touch tK1 (Ne.symm NK.out)); replace LN := Lib.hid (lens_touch LN.out tK1 NL.out); replace HB := Lib.hid (btouch HB.out tK1 LK.out); clear nK1 tK1) | (refine big_whole rfl 29 _ rfl gK2 rfl K2.out Tryd.underlying29 rfl (by kernel_rfl) ?_))
  refine (own6_any (atT a ts tn) _).mono ?_
  rintro e c3 ⟨rfl, hc3⟩
  replace LN := Lib.hid ((LN.out).keptB hc3)
  replace K1 := Lib.hid ((K1.out).keptB hc3)
  replace K2 := Lib.hid ((K2.out).keptB hc3)
  replace HB := Lib.hid (bstep HB.out hc3)
  clear hc3
  go_wp2_with fail
  refine (enc6_yes (atT a ts tn) _ LN.out fa0 fa1 HBR.out ys HBE.out M HBN.out).mono ?_
  rintro e c4 ⟨gY, capY, -, rfl, nBY, hc0, hc1, hc4⟩
  replace LN := Lib.hid ((LN.out).keptB hc4)
  replace K1 := Lib.hid ((K1.out).keptB hc4)
  replace K2 := Lib.hid ((K2.out).keptB hc4)
  replace HB := Lib.hid (bstep HB.out hc4)
  have BY := Lib.hid nBY
  clear nBY
  clear hc4
  have CY : Hid (M ≤ capY ∧ capY ≤ maxLen) := ⟨hc0, hc1⟩
  clear hc0 hc1
  go_wp2_with fail
  refine (alive6_any _ LN.out).mono ?_
  rintro e c5 ⟨rfl, hc5⟩
  replace LN := Lib.hid ((LN.out).keptB hc5)
  replace K1 := Lib.hid ((K1.out).keptB hc5)
  replace K2 := Lib.hid ((K2.out).keptB hc5)
  replace BY := Lib.hid ((BY.out).keptB hc5)
  replace HB := Lib.hid (bstep HB.out hc5)
  clear hc5
  go_wp2
  go_ret
  exact ⟨rfl, HB.out⟩
set_option maxHeartbeats 4000000 in
theorem times6_yn (a : Ms) (ts tn : Int) (fa0 : -9223372036854775808 ≤ a.h.f) (fa1 : a.h.f ≤ 9223372036854775807) (ca0 : -9223372036854775808 ≤ a.h.c) (ca1 : a.h.c ≤ 9223372036854775807) (oa1 : a.h.p.c.ok) (oa2 : a.ak.c.ok) (oa3 : a.gr.ok) (w : World) (hl : Lens w) (ra : a.right = true) (rb : (atT a ts tn).right = false) :
    Calls Tryd.prog 8 #[.agg (msA a), .agg #[.int .i64 ts, .int .i64 tn]] w fun e w' => e = .returned (.bool true) ∧ Below w.heap.size w w' := by
  have HB := Lib.hid (Below.refl w.heap.size w)
  have LN := Lib.hid hl
  have HAR := Lib.hid ra
  have HBR := Lib.hid rb
  clear hl ra rb
  obtain ⟨xs, hxs⟩ : ∃ xs, encM a = xs := ⟨_, rfl⟩
  obtain ⟨N, hN⟩ : ∃ N, xs.length = N := ⟨_, rfl⟩
  have HAE := Lib.hid hxs
  have HAN := Lib.hid hN
  clear hxs hN
  go_enter Tryd.func8, Tryd.ntmps8
  go_wp2_with (first | (refine big_whole rfl 35 _ rfl gK1 rfl K1.out Tryd.underlying35 rfl (by kernel_rfl) ?_) | (refine big_box rfl 29 _ rfl (#[.int .i64 ts, .int .i64 tn]) rfl (by kernel_rfl) ?_; intro gK2 wK2 hlK2 nK2 hbK2; have NK := Lib.hid (show gK1 ≠ gK2 by have := (K1.out).inside; omega); replace LN := Lib.hid ((LN.out).keptB hbK2); replace K1 := Lib.hid ((K1.out).keptB hbK2); replace HB := Lib.hid (bstep HB.out hbK2); have K2 := Lib.hid nK2; clear hlK2 nK2 hbK2) | (refine big_box rfl 35 _ rfl (msA a) rfl (by kernel_rfl) ?_; intro gK1 wK1 hlK1 nK1 hbK1; have NL := Lib.hid (show 0 ≠ gK1 by have := (LN.out).inside; omega); have LK := Lib.hid (show w.heap.size ≤ gK1 from Nat.le_trans (HB.out).size hlK1); replace LN := Lib.hid ((LN.out).keptB hbK1); replace HB := Lib.hid (bstep HB.out hbK1); have K1 := Lib.hid nK1; clear hlK1 nK1 hbK1))
  refine (own6_any a _).mono ?_
  rintro e c1 ⟨rfl, hc1⟩
  replace LN := Lib.hid ((LN.out).keptB hc1)
  replace K1 := Lib.hid ((K1.out).keptB hc1)
  replace K2 := Lib.hid ((K2.out).keptB hc1)
  replace HB := Lib.hid (bstep HB.out hc1)
  clear hc1
  go_wp2_with fail
  refine (enc6_yes a _ LN.out fa0 fa1 HAR.out xs HAE.out N HAN.out).mono ?_
  rintro e c2 ⟨gX, capX, hgX, rfl, nBX, hc0, hc1, hc2⟩
  have NX := Lib.hid (show (⟨gX, 0, none⟩ : Addr).block ≠ gK1 by have := (K1.out).inside; show gX ≠ gK1; omega)
  replace LN := Lib.hid ((LN.out).keptB hc2)
  replace K1 := Lib.hid ((K1.out).keptB hc2)
  replace K2 := Lib.hid ((K2.out).keptB hc2)
  replace HB := Lib.hid (bstep HB.out hc2)
  have BX := Lib.hid nBX
  clear nBX
  clear hc2
  clear hgX
  have CX : Hid (N ≤ capX ∧ capX ≤ maxLen) := ⟨hc0, hc1⟩
  clear hc0 hc1
  go_wp2_with (first | (refine big_whole rfl 35 _ rfl gK1 rfl K1.out Tryd.underlying35 rfl (by kernel_rfl) ?_) | (refine big_store rfl 29 _ _ rfl gK1 15 [.int .i64 ts, .int .i64 tn] rfl rfl K1.out (by kernel_rfl) (by kernel_rfl) (of_decide_eq_true (by kernel_rfl)) (msA (atT a ts tn)) (by kernel_rfl) ?_; intro vT nK1 tK1; replace K1 := Lib.hid nK1; replace K2 := Lib.hid ((K2.out).touch tK1 (Ne.symm NK.out)); replace BX := Lib.hid ((BX.out).touch tK1 NX.out); replace LN := Lib.hid (lens_touch LN.out tK1 NL.out); replace HB := Lib.hid (btouch HB.out tK1 LK.out); clear nK1 tK1) | (refine big_whole rfl 29 _ rfl gK2 rfl K2.out Tryd.underlying29 rfl (by kernel_rfl) ?_))
  refine (own6_any (atT a ts tn) _).mono ?_
  rintro e c3 ⟨rfl, hc3⟩
  replace LN := Lib.hid ((LN.out).keptB hc3)
  replace K1 := Lib.hid ((K1.out).keptB hc3)
  replace K2 := Lib.hid ((K2.out).keptB hc3)
  replace BX := Lib.hid ((BX.out).keptB hc3)
  replace HB := Lib.hid (bstep HB.out hc3)
  clear hc3
  go_wp2_with fail
  refine (encM_no (atT a ts tn) _ LN.out fa0 fa1 HBR.out).mono ?_
  rintro e c4 ⟨rfl, hc4⟩
  replace LN := Lib.hid ((LN.out).keptB hc4)
  replace K1 := Lib.hid ((K1.out).keptB hc4)
  replace K2 := Lib.hid ((K2.out).keptB hc4)
  replace BX := Lib.hid ((BX.out).keptB hc4)
  replace HB := Lib.hid (bstep HB.out hc4)
  clear hc4
  go_wp2_with fail
  refine (alive6_any _ LN.out).mono ?_
  rintro e c5 ⟨rfl, hc5⟩
  replace LN := Lib.hid ((LN.out).keptB hc5)
  replace K1 := Lib.hid ((K1.out).keptB hc5)
  replace K2 := Lib.hid ((K2.out).keptB hc5)
  replace BX := Lib.hid ((BX.out).keptB hc5)
  replace HB := Lib.hid (bstep HB.out hc5)
  clear hc5
  go_wp2
  go_ret
  exact ⟨rfl, HB.out⟩
set_option maxHeartbeats 4000000 in
theorem times6_yy (a : Ms) (ts tn : Int) (fa0 : -9223372036854775808 ≤ a.h.f) (fa1 : a.h.f ≤ 9223372036854775807) (ca0 : -9223372036854775808 ≤ a.h.c) (ca1 : a.h.c ≤ 9223372036854775807) (oa1 : a.h.p.c.ok) (oa2 : a.ak.c.ok) (oa3 : a.gr.ok) (w : World) (hl : Lens w) (ra : a.right = true) (rb : (atT a ts tn).right = true) :
    Calls Tryd.prog 8 #[.agg (msA a), .agg #[.int .i64 ts, .int .i64 tn]] w fun e w' => e = .returned (.bool true) ∧ Below w.heap.size w w' := by
  have HB := Lib.hid (Below.refl w.heap.size w)
  have LN := Lib.hid hl
  have HAR := Lib.hid ra
  have HBR := Lib.hid rb
  clear hl ra rb
  obtain ⟨xs, hxs⟩ : ∃ xs, encM a = xs := ⟨_, rfl⟩
  obtain ⟨N, hN⟩ : ∃ N, xs.length = N := ⟨_, rfl⟩
  have HAE := Lib.hid hxs
  obtain ⟨ys, hys⟩ : ∃ ys, encM (atT a ts tn) = ys := ⟨_, rfl⟩
  obtain ⟨M, hM⟩ : ∃ M, ys.length = M := ⟨_, rfl⟩
  have HBE := Lib.hid hys
  have hln := (Hd.right_iff.1 (Ms.right_iff.1 HAR.out).1).1
  have e1 : (N : Int) = longN a.h.t := by rw [← hN, ← hxs]; exact encM_length hln
  have e2 : (M : Int) = longN a.h.t := by rw [← hM, ← hys]; exact encM_length (m := atT a ts tn) hln
  have e44 := (longN_ne hln).2
  obtain rfl : M = N := by omega
  have hM44 : 44 ≤ M := by omega
  obtain ⟨S, hS⟩ : ∃ S, strOfNums (xs.take 34) = S := ⟨_, rfl⟩
  have hS2 : strOfNums (ys.take 34) = S := by rw [← hS, ← hxs, ← hys, encM_take34, encM_take34]; rfl
  obtain ⟨R, hR⟩ : ∃ R, strOfNums (xs.drop 44) = R := ⟨_, rfl⟩
  have hR2 : strOfNums (ys.drop 44) = R := by rw [← hR, ← hxs, ← hys, encM_drop44, encM_drop44, atT_tail]
  have HAN := Lib.hid hN
  have HBN := Lib.hid hM
  have HS := Lib.hid hS
  have HS2 := Lib.hid hS2
  have HR := Lib.hid hR
  have HR2 := Lib.hid hR2
  clear hln e1 e2 e44 hS hS2 hR hR2
  clear hxs hys hN hM
  go_enter Tryd.func8, Tryd.ntmps8
  go_wp2_with (first | (refine big_whole rfl 35 _ rfl gK1 rfl K1.out Tryd.underlying35 rfl (by kernel_rfl) ?_) | (refine big_box rfl 29 _ rfl (#[.int .i64 ts, .int .i64 tn]) rfl (by kernel_rfl) ?_; intro gK2 wK2 hlK2 nK2 hbK2; have NK := Lib.hid (show gK1 ≠ gK2 by have := (K1.out).inside; omega); replace LN := Lib.hid ((LN.out).keptB hbK2); replace K1 := Lib.hid ((K1.out).keptB hbK2); replace HB := Lib.hid (bstep HB.out hbK2); have K2 := Lib.hid nK2; clear hlK2 nK2 hbK2) | (refine big_box rfl 35 _ rfl (msA a) rfl (by kernel_rfl) ?_; intro gK1 wK1 hlK1 nK1 hbK1; have NL := Lib.hid (show 0 ≠ gK1 by have := (LN.out).inside; omega); have LK := Lib.hid (show w.heap.size ≤ gK1 from Nat.le_trans (HB.out).size hlK1); replace LN := Lib.hid ((LN.out).keptB hbK1); replace HB := Lib.hid (bstep HB.out hbK1); have K1 := Lib.hid nK1; clear hlK1 nK1 hbK1))
  refine (own6_any a _).mono ?_
  rintro e c1 ⟨rfl, hc1⟩
  replace LN := Lib.hid ((LN.out).keptB hc1)
  replace K1 := Lib.hid ((K1.out).keptB hc1)
  replace K2 := Lib.hid ((K2.out).keptB hc1)
  replace HB := Lib.hid (bstep HB.out hc1)
  clear hc1
  go_wp2_with fail
  refine (enc6_yes a _ LN.out fa0 fa1 HAR.out xs HAE.out M HAN.out).mono ?_
  rintro e c2 ⟨gX, capX, hgX, rfl, nBX, hc0, hc1, hc2⟩
  have NX := Lib.hid (show (⟨gX, 0, none⟩ : Addr).block ≠ gK1 by have := (K1.out).inside; show gX ≠ gK1; omega)
  replace LN := Lib.hid ((LN.out).keptB hc2)
  replace K1 := Lib.hid ((K1.out).keptB hc2)
  replace K2 := Lib.hid ((K2.out).keptB hc2)
  replace HB := Lib.hid (bstep HB.out hc2)
  have BX := Lib.hid nBX
  clear nBX
  clear hc2
  clear hgX
  have CX : Hid (M ≤ capX ∧ capX ≤ maxLen) := ⟨hc0, hc1⟩
  clear hc0 hc1
  go_wp2_with (first | (refine big_whole rfl 35 _ rfl gK1 rfl K1.out Tryd.underlying35 rfl (by kernel_rfl) ?_) | (refine big_store rfl 29 _ _ rfl gK1 15 [.int .i64 ts, .int .i64 tn] rfl rfl K1.out (by kernel_rfl) (by kernel_rfl) (of_decide_eq_true (by kernel_rfl)) (msA (atT a ts tn)) (by kernel_rfl) ?_; intro vT nK1 tK1; replace K1 := Lib.hid nK1; replace K2 := Lib.hid ((K2.out).touch tK1 (Ne.symm NK.out)); replace BX := Lib.hid ((BX.out).touch tK1 NX.out); replace LN := Lib.hid (lens_touch LN.out tK1 NL.out); replace HB := Lib.hid (btouch HB.out tK1 LK.out); clear nK1 tK1) | (refine big_whole rfl 29 _ rfl gK2 rfl K2.out Tryd.underlying29 rfl (by kernel_rfl) ?_))
  refine (own6_any (atT a ts tn) _).mono ?_
  rintro e c3 ⟨rfl, hc3⟩
  replace LN := Lib.hid ((LN.out).keptB hc3)
  replace K1 := Lib.hid ((K1.out).keptB hc3)
  replace K2 := Lib.hid ((K2.out).keptB hc3)
  replace BX := Lib.hid ((BX.out).keptB hc3)
  replace HB := Lib.hid (bstep HB.out hc3)
  clear hc3
  go_wp2_with fail
  refine (enc6_yes (atT a ts tn) _ LN.out fa0 fa1 HBR.out ys HBE.out M HBN.out).mono ?_
  rintro e c4 ⟨gY, capY, -, rfl, nBY, hc0, hc1, hc4⟩
  replace LN := Lib.hid ((LN.out).keptB hc4)
  replace K1 := Lib.hid ((K1.out).keptB hc4)
  replace K2 := Lib.hid ((K2.out).keptB hc4)
  replace BX := Lib.hid ((BX.out).keptB hc4)
  replace HB := Lib.hid (bstep HB.out hc4)
  have BY := Lib.hid nBY
  clear nBY
  clear hc4
  have CY : Hid (M ≤ capY ∧ capY ≤ maxLen) := ⟨hc0, hc1⟩
  clear hc0 hc1
  have cx := CX.out
  have cy := CY.out
  obtain ⟨X, hX1, hX2⟩ := slice_tail ⟨gX, 0, none⟩ hM44 cx.1
  obtain ⟨Y, hY1, hY2⟩ := slice_tail ⟨gY, 0, none⟩ hM44 cy.1
  have X1 := Lib.hid hX1
  have X2 := Lib.hid hX2
  have Y1 := Lib.hid hY1
  have Y2 := Lib.hid hY2
  have P1 := Lib.hid (slice_hi ⟨gX, 0, none⟩ (show 34 ≤ M by omega) cx.1)
  have P2 := Lib.hid (slice_hi ⟨gY, 0, none⟩ (show 34 ≤ M by omega) cy.1)
  have d44 : decide ((M : Int) < 44) = false := by simp; omega
  clear hX1 hX2 hY1 hY2 cx cy
  go_upto_region 8 with fail
  refine wp_region_noPanic ?_
  refine wp_region_held_drew (S := fun v => Below w.heap.size w v ∧ Lens v ∧ Holds v gK1 35 (msA (atT a ts tn)) ∧ Holds v gK2 29 #[.int .i64 ts, .int .i64 tn] ∧ BytesAt v ⟨gX, 0, none⟩ xs ∧ BytesAt v ⟨gY, 0, none⟩ ys ∧ True) (by kernel_rfl) ?_ (fun hHeld => ?_)
  · exact ⟨bdrew HB.out, (LN.out).drew, (K1.out).drew, (K2.out).drew, (BX.out).drew, (BY.out).drew, trivial⟩
  clear HB LN K1 K2 BX BY
  refine wpAnyH_ready (rs := [0]) (by kernel_rfl) (by simp) ?_
  refine AllReadyH.cons (at_list rfl) (fun K hK => ?_) AllReadyH.nil
  go_simp
  refine (alive6_any _ hHeld.2.1).mono ?_
  rintro e v5 ⟨rfl, hv5⟩
  go_wp2_with fail
  refine hK.out _ _ ?_ (fun hHeld2 => ?_)
  · exact ⟨bstep hHeld.1 hv5, hHeld.2.1.keptB hv5, hHeld.2.2.1.keptB hv5, hHeld.2.2.2.1.keptB hv5, hHeld.2.2.2.2.1.keptB hv5, hHeld.2.2.2.2.2.1.keptB hv5, trivial⟩
  clear hK K hHeld
  have hHeld := hHeld2
  clear hHeld2 hv5
  try simp only [Act.put, List.setIfInBounds_toArray, List.set_cons_zero, List.set_cons_succ]
  refine wpAnyH_take (i := 1) (v := .bool true) (at_list rfl) (by kernel_rfl) (by kernel_rfl) (by kernel_rfl) (fun _ _ _ h => h) (Or.inl ⟨by rfl, ?_⟩) hHeld ?_
  · intro v hSv
    clear hHeld
    go_simp
  try simp only [Act.put, List.setIfInBounds_toArray, List.set_cons_zero, List.set_cons_succ]
  refine wpAnyH_take (i := 2) (v := .slice (some ⟨gX, 0, none⟩) M capX) (at_list rfl) (by kernel_rfl) (by kernel_rfl) (by kernel_rfl) (fun _ _ _ h => h) (Or.inl ⟨by rfl, ?_⟩) hHeld ?_
  · intro v hSv
    clear hHeld
    go_simp
  try simp only [Act.put, List.setIfInBounds_toArray, List.set_cons_zero, List.set_cons_succ]
  refine wpAnyH_take (i := 3) (v := .slice (some ⟨gX, 0, none⟩) 34 capX) (at_list rfl) (by kernel_rfl) (by kernel_rfl) (by kernel_rfl) (fun _ _ _ h => h) (Or.inl ⟨by rfl, ?_⟩) hHeld ?_
  · intro v hSv
    clear hHeld
    clear hSv
    have q := P1.out v
    go_simp
  try simp only [Act.put, List.setIfInBounds_toArray, List.set_cons_zero, List.set_cons_succ]
  refine wpAnyH_take (i := 4) (v := .string S) (at_list rfl) (by kernel_rfl) (by kernel_rfl) (by kernel_rfl) (fun _ _ _ h => h) (Or.inl ⟨by rfl, ?_⟩) hHeld ?_
  · intro v hSv
    clear hHeld
    have q := conv_at v ⟨gX, 0, none⟩ 34 capX (xs.take 34) (by rw [List.length_take, HAN.out]; omega) (hSv.2.2.2.2.1.take_ 34)
    rw [HS.out] at q
    clear hSv
    go_simp
  try simp only [Act.put, List.setIfInBounds_toArray, List.set_cons_zero, List.set_cons_succ]
  refine wpAnyH_take (i := 5) (v := .slice (some ⟨gY, 0, none⟩) M capY) (at_list rfl) (by kernel_rfl) (by kernel_rfl) (by kernel_rfl) (fun _ _ _ h => h) (Or.inl ⟨by rfl, ?_⟩) hHeld ?_
  · intro v hSv
    clear hHeld
    go_simp
  try simp only [Act.put, List.setIfInBounds_toArray, List.set_cons_zero, List.set_cons_succ]
  refine wpAnyH_take (i := 6) (v := .slice (some ⟨gY, 0, none⟩) 34 capY) (at_list rfl) (by kernel_rfl) (by kernel_rfl) (by kernel_rfl) (fun _ _ _ h => h) (Or.inl ⟨by rfl, ?_⟩) hHeld ?_
  · intro v hSv
    clear hHeld
    clear hSv
    have q := P2.out v
    go_simp
  try simp only [Act.put, List.setIfInBounds_toArray, List.set_cons_zero, List.set_cons_succ]
  refine wpAnyH_take (i := 7) (v := .string S) (at_list rfl) (by kernel_rfl) (by kernel_rfl) (by kernel_rfl) (fun _ _ _ h => h) (Or.inl ⟨by rfl, ?_⟩) hHeld ?_
  · intro v hSv
    clear hHeld
    have q := conv_at v ⟨gY, 0, none⟩ 34 capY (ys.take 34) (by rw [List.length_take, HBN.out]; omega) (hSv.2.2.2.2.2.1.take_ 34)
    rw [HS2.out] at q
    clear hSv
    go_simp
  try simp only [Act.put, List.setIfInBounds_toArray, List.set_cons_zero, List.set_cons_succ]
  refine wpAnyH_take (i := 8) (v := .bool true) (at_list rfl) (by kernel_rfl) (by kernel_rfl) (by kernel_rfl) (fun _ _ _ h => h) (Or.inl ⟨by rfl, ?_⟩) hHeld ?_
  · intro v hSv
    clear hHeld
    clear hSv
    go_simp
  try simp only [Act.put, List.setIfInBounds_toArray, List.set_cons_zero, List.set_cons_succ]
  refine wpAnyH_take (i := 9) (v := .bool true) (at_list rfl) (by kernel_rfl) (by kernel_rfl) (by kernel_rfl) (fun _ _ _ h => h) (Or.inl ⟨by rfl, ?_⟩) hHeld ?_
  · intro v hSv
    clear hHeld
    go_simp
  try simp only [Act.put, List.setIfInBounds_toArray, List.set_cons_zero, List.set_cons_succ]
  refine wpAnyH_take (i := 10) (v := .bool true) (at_list rfl) (by kernel_rfl) (by kernel_rfl) (by kernel_rfl) (fun _ _ _ h => h) (Or.inl ⟨by rfl, ?_⟩) hHeld ?_
  · intro v hSv
    clear hHeld
    go_simp
  try simp only [Act.put, List.setIfInBounds_toArray, List.set_cons_zero, List.set_cons_succ]
  refine wpAnyH_take (i := 11) (v := .slice (some ⟨gX, 0, none⟩) M capX) (at_list rfl) (by kernel_rfl) (by kernel_rfl) (by kernel_rfl) (fun _ _ _ h => h) (Or.inl ⟨by rfl, ?_⟩) hHeld ?_
  · intro v hSv
    clear hHeld
    go_simp
  try simp only [Act.put, List.setIfInBounds_toArray, List.set_cons_zero, List.set_cons_succ]
  refine wpAnyH_take (i := 12) (v := .slice (some X) (M - 44) (capX - 44)) (at_list rfl) (by kernel_rfl) (by kernel_rfl) (by kernel_rfl) (fun _ _ _ h => h) (Or.inl ⟨by rfl, ?_⟩) hHeld ?_
  · intro v hSv
    clear hHeld
    clear hSv
    have q := X1.out v
    go_simp
  try simp only [Act.put, List.setIfInBounds_toArray, List.set_cons_zero, List.set_cons_succ]
  refine wpAnyH_take (i := 13) (v := .string R) (at_list rfl) (by kernel_rfl) (by kernel_rfl) (by kernel_rfl) (fun _ _ _ h => h) (Or.inl ⟨by rfl, ?_⟩) hHeld ?_
  · intro v hSv
    clear hHeld
    have q := conv_at v X (M - 44) (capX - 44) (xs.drop 44) (by rw [List.length_drop, HAN.out]) (X2.out v xs HAN.out hSv.2.2.2.2.1)
    rw [HR.out] at q
    clear hSv
    go_simp
  try simp only [Act.put, List.setIfInBounds_toArray, List.set_cons_zero, List.set_cons_succ]
  refine wpAnyH_take (i := 14) (v := .slice (some ⟨gY, 0, none⟩) M capY) (at_list rfl) (by kernel_rfl) (by kernel_rfl) (by kernel_rfl) (fun _ _ _ h => h) (Or.inl ⟨by rfl, ?_⟩) hHeld ?_
  · intro v hSv
    clear hHeld
    go_simp
  try simp only [Act.put, List.setIfInBounds_toArray, List.set_cons_zero, List.set_cons_succ]
  refine wpAnyH_take (i := 15) (v := .slice (some Y) (M - 44) (capY - 44)) (at_list rfl) (by kernel_rfl) (by kernel_rfl) (by kernel_rfl) (fun _ _ _ h => h) (Or.inl ⟨by rfl, ?_⟩) hHeld ?_
  · intro v hSv
    clear hHeld
    clear hSv
    have q := Y1.out v
    go_simp
  try simp only [Act.put, List.setIfInBounds_toArray, List.set_cons_zero, List.set_cons_succ]
  refine wpAnyH_take (i := 16) (v := .string R) (at_list rfl) (by kernel_rfl) (by kernel_rfl) (by kernel_rfl) (fun _ _ _ h => h) (Or.inl ⟨by rfl, ?_⟩) hHeld ?_
  · intro v hSv
    clear hHeld
    have q := conv_at v Y (M - 44) (capY - 44) (ys.drop 44) (by rw [List.length_drop, HBN.out]) (Y2.out v ys HBN.out hSv.2.2.2.2.2.1)
    rw [HR2.out] at q
    clear hSv
    go_simp
  try simp only [Act.put, List.setIfInBounds_toArray, List.set_cons_zero, List.set_cons_succ]
  refine wpAnyH_take (i := 17) (v := .bool true) (at_list rfl) (by kernel_rfl) (by kernel_rfl) (by kernel_rfl) (fun _ _ _ h => h) (Or.inl ⟨by rfl, ?_⟩) hHeld ?_
  · intro v hSv
    clear hHeld
    clear hSv
    go_simp
  try simp only [Act.put, List.setIfInBounds_toArray, List.set_cons_zero, List.set_cons_succ]
  refine wpAnyH_take (i := 18) (v := .bool true) (at_list rfl) (by kernel_rfl) (by kernel_rfl) (by kernel_rfl) (fun _ _ _ h => h) (Or.inl ⟨by rfl, ?_⟩) hHeld ?_
  · intro v hSv
    clear hHeld
    go_simp
  try simp only [Act.put, List.setIfInBounds_toArray, List.set_cons_zero, List.set_cons_succ]
  refine wpAnyH_take (i := 19) (v := .bool true) (at_list rfl) (by kernel_rfl) (by kernel_rfl) (by kernel_rfl) (fun _ _ _ h => h) (Or.inl ⟨by rfl, ?_⟩) hHeld ?_
  · intro v hSv
    clear hHeld
    go_simp
  try simp only [Act.put, List.setIfInBounds_toArray, List.set_cons_zero, List.set_cons_succ]
  refine wpAnyH_done (by kernel_rfl) ?_ _
  refine NoPanic.normal ?_
  have HB := Lib.hid hHeld.1
  have LN := Lib.hid hHeld.2.1
  have K1 := Lib.hid hHeld.2.2.1
  have K2 := Lib.hid hHeld.2.2.2.1
  have BX := Lib.hid hHeld.2.2.2.2.1
  have BY := Lib.hid hHeld.2.2.2.2.2.1
  clear hHeld
  go_wp2
  go_ret
  exact ⟨rfl, HB.out⟩
theorem times6_walk (a : Ms) (ts tn : Int) (fa0 : -9223372036854775808 ≤ a.h.f) (fa1 : a.h.f ≤ 9223372036854775807) (ca0 : -9223372036854775808 ≤ a.h.c) (ca1 : a.h.c ≤ 9223372036854775807) (oa1 : a.h.p.c.ok) (oa2 : a.ak.c.ok) (oa3 : a.gr.ok) (w : World) (hl : Lens w) :
    Calls Tryd.prog 8 #[.agg (msA a), .agg #[.int .i64 ts, .int .i64 tn]] w fun e w' => e = .returned (.bool true) ∧ Below w.heap.size w w' := by
  cases ra : a.right <;> cases rb : (atT a ts tn).right
  · exact times6_nn a ts tn fa0 fa1 ca0 ca1 oa1 oa2 oa3 w hl ra rb
  · exact times6_ny a ts tn fa0 fa1 ca0 ca1 oa1 oa2 oa3 w hl ra rb
  · exact times6_yn a ts tn fa0 fa1 ca0 ca1 oa1 oa2 oa3 w hl ra rb
  · exact times6_yy a ts tn fa0 fa1 ca0 ca1 oa1 oa2 oa3 w hl ra rb

end Go.Proofs.YtnmpfemmeblnlaaDoor
