/- The walks over the reference's Compare and Less. -/
import Derived.Test.YtpdnfeooijmgoaaRankRef
namespace Go.Proofs.Ytpdnfeooijmgoaa
set_option maxRecDepth 100000
open Go.RowKit
set_option linter.unusedVariables false

set_option maxHeartbeats 4000000 in
theorem rcomp_unlike (a b : Rs) (w : World) (hg : eqC a.gr b.gr = false) :
    Calls Try.prog 29 #[.agg (rsA a), .agg (rsA b)] w fun e w' => e = .returned (.int .i64 (compN a b)) ∧ Below w.heap.size w w' := by
  have HB := Lib.hid (Below.refl w.heap.size w)
  have HG := Lib.hid hg
  clear hg
  obtain ⟨n, HN⟩ : ∃ n, Hid (grandN a b = n) := ⟨_, Lib.hid rfl⟩
  by_cases hn : n < 0
  · have HX : Hid (compN a b = 1) := by unfold compN; rw [Hid, if_pos HG.out, HN.out, if_pos hn]
    have d0 : decide (n < 0) = true := by simpa using hn
    clear hn
    go_enter Try.func29, Try.ntmps29
    go_wp2_with (first | (refine big_whole rfl 29 _ rfl gK2 rfl K2.out Try.underlying29 rfl (by kernel_rfl) ?_) | (refine big_whole rfl 29 _ rfl gK1 rfl K1.out Try.underlying29 rfl (by kernel_rfl) ?_) | (refine big_cmp rfl .neq 25 _ _ _ rfl (#[.int .u8 a.gr.b0, .int .u8 a.gr.b1, .int .u8 a.gr.b2, .int .u8 a.gr.b3, .int .u8 a.gr.b4, .int .u8 a.gr.b5, .int .u8 a.gr.b6, .int .u8 a.gr.b7]) (#[.int .u8 b.gr.b0, .int .u8 b.gr.b1, .int .u8 b.gr.b2, .int .u8 b.gr.b3, .int .u8 b.gr.b4, .int .u8 b.gr.b5, .int .u8 b.gr.b6, .int .u8 b.gr.b7]) rfl rfl (by kernel_rfl) true (fun v => (neq_clock a.gr b.gr v).trans (by rw [HG.out]; rfl)) ?_) | (refine big_load rfl 25 _ rfl gK2 5 rfl K2.out [.int .u8 b.gr.b0, .int .u8 b.gr.b1, .int .u8 b.gr.b2, .int .u8 b.gr.b3, .int .u8 b.gr.b4, .int .u8 b.gr.b5, .int .u8 b.gr.b6, .int .u8 b.gr.b7] rfl Try.underlying25 rfl (by kernel_rfl) ?_) | (refine big_load rfl 25 _ rfl gK1 5 rfl K1.out [.int .u8 a.gr.b0, .int .u8 a.gr.b1, .int .u8 a.gr.b2, .int .u8 a.gr.b3, .int .u8 a.gr.b4, .int .u8 a.gr.b5, .int .u8 a.gr.b6, .int .u8 a.gr.b7] rfl Try.underlying25 rfl (by kernel_rfl) ?_) | (refine big_box rfl 29 _ rfl (rsA b) rfl (by kernel_rfl) ?_; intro gK2 wK2 hlK2 nK2 hbK2; have K2 := Lib.hid nK2; have LK2 := Lib.hid (Nat.le_trans (HB.out).size hlK2); have NK1K2 := Lib.hid (show gK1 ≠ gK2 by have := (K1.out).inside; omega); replace K1 := Lib.hid ((K1.out).keptB hbK2); replace HB := Lib.hid (bstep HB.out hbK2); clear hlK2 nK2 hbK2) | (refine big_box rfl 29 _ rfl (rsA a) rfl (by kernel_rfl) ?_; intro gK1 wK1 hlK1 nK1 hbK1; have K1 := Lib.hid nK1; have LK1 := Lib.hid (Nat.le_trans (HB.out).size hlK1); replace HB := Lib.hid (bstep HB.out hbK1); clear hlK1 nK1 hbK1))
    refine (rgrand_any a b _).mono ?_
    rintro e w1 ⟨rfl, h1⟩
    rw [HN.out]
    replace K1 := Lib.hid ((K1.out).keptB h1)
    replace K2 := Lib.hid ((K2.out).keptB h1)
    replace HB := Lib.hid (bstep HB.out h1)
    clear h1
    go_wp2
    go_ret
    exact ⟨ret_int (by rw [HX.out]), HB.out⟩
  · have HX : Hid (compN a b = 3) := by unfold compN; rw [Hid, if_pos HG.out, HN.out, if_neg hn]
    have d0 : decide (n < 0) = false := by simpa using hn
    clear hn
    go_enter Try.func29, Try.ntmps29
    go_wp2_with (first | (refine big_whole rfl 29 _ rfl gK2 rfl K2.out Try.underlying29 rfl (by kernel_rfl) ?_) | (refine big_whole rfl 29 _ rfl gK1 rfl K1.out Try.underlying29 rfl (by kernel_rfl) ?_) | (refine big_cmp rfl .neq 25 _ _ _ rfl (#[.int .u8 a.gr.b0, .int .u8 a.gr.b1, .int .u8 a.gr.b2, .int .u8 a.gr.b3, .int .u8 a.gr.b4, .int .u8 a.gr.b5, .int .u8 a.gr.b6, .int .u8 a.gr.b7]) (#[.int .u8 b.gr.b0, .int .u8 b.gr.b1, .int .u8 b.gr.b2, .int .u8 b.gr.b3, .int .u8 b.gr.b4, .int .u8 b.gr.b5, .int .u8 b.gr.b6, .int .u8 b.gr.b7]) rfl rfl (by kernel_rfl) true (fun v => (neq_clock a.gr b.gr v).trans (by rw [HG.out]; rfl)) ?_) | (refine big_load rfl 25 _ rfl gK2 5 rfl K2.out [.int .u8 b.gr.b0, .int .u8 b.gr.b1, .int .u8 b.gr.b2, .int .u8 b.gr.b3, .int .u8 b.gr.b4, .int .u8 b.gr.b5, .int .u8 b.gr.b6, .int .u8 b.gr.b7] rfl Try.underlying25 rfl (by kernel_rfl) ?_) | (refine big_load rfl 25 _ rfl gK1 5 rfl K1.out [.int .u8 a.gr.b0, .int .u8 a.gr.b1, .int .u8 a.gr.b2, .int .u8 a.gr.b3, .int .u8 a.gr.b4, .int .u8 a.gr.b5, .int .u8 a.gr.b6, .int .u8 a.gr.b7] rfl Try.underlying25 rfl (by kernel_rfl) ?_) | (refine big_box rfl 29 _ rfl (rsA b) rfl (by kernel_rfl) ?_; intro gK2 wK2 hlK2 nK2 hbK2; have K2 := Lib.hid nK2; have LK2 := Lib.hid (Nat.le_trans (HB.out).size hlK2); have NK1K2 := Lib.hid (show gK1 ≠ gK2 by have := (K1.out).inside; omega); replace K1 := Lib.hid ((K1.out).keptB hbK2); replace HB := Lib.hid (bstep HB.out hbK2); clear hlK2 nK2 hbK2) | (refine big_box rfl 29 _ rfl (rsA a) rfl (by kernel_rfl) ?_; intro gK1 wK1 hlK1 nK1 hbK1; have K1 := Lib.hid nK1; have LK1 := Lib.hid (Nat.le_trans (HB.out).size hlK1); replace HB := Lib.hid (bstep HB.out hbK1); clear hlK1 nK1 hbK1))
    refine (rgrand_any a b _).mono ?_
    rintro e w1 ⟨rfl, h1⟩
    rw [HN.out]
    replace K1 := Lib.hid ((K1.out).keptB h1)
    replace K2 := Lib.hid ((K2.out).keptB h1)
    replace HB := Lib.hid (bstep HB.out h1)
    clear h1
    go_wp2
    go_ret
    exact ⟨ret_int (by rw [HX.out]), HB.out⟩
set_option maxHeartbeats 4000000 in
theorem rcomp_far (a b : Rs) (w : World) (ha : a.ok) (hb : b.ok) (hg : eqC a.gr b.gr = true) (h1 : b.st < a.st) :
    Calls Try.prog 29 #[.agg (rsA a), .agg (rsA b)] w fun e w' => e = .returned (.int .i64 (compN a b)) ∧ Below w.heap.size w w' := by
  have HB := Lib.hid (Below.refl w.heap.size w)
  have OA := Lib.hid ha
  have OB := Lib.hid hb
  clear ha hb
  have HG := Lib.hid hg
  clear hg
  by_cases hc : b.st + 1 < a.st
  · have HY : Hid (compN a b = farN a b.st) := by unfold compN; rw [Hid, if_neg (by rw [HG.out]; simp), if_pos h1]
    have HX : Hid (farN a b.st = 3) := by unfold farN; rw [Hid, if_pos hc]
    have d0 : (a.st - 1 != b.st) = true := by simp; omega
    have d1 : decide (a.st < b.st) = false := by simp; omega
    have d2 : decide (b.st < a.st) = true := by simpa using h1
    have b1 : -9223372036854775808 ≤ a.st - 1 := by have := (OB.out).lo; omega
    have b2 := (OA.out).hi
    clear h1 hc 
    go_enter Try.func29, Try.ntmps29
    go_wp2_with (first | (refine big_load rfl 25 _ rfl gK1 14 rfl K1.out [.int .u8 a.sn.c.b0, .int .u8 a.sn.c.b1, .int .u8 a.sn.c.b2, .int .u8 a.sn.c.b3, .int .u8 a.sn.c.b4, .int .u8 a.sn.c.b5, .int .u8 a.sn.c.b6, .int .u8 a.sn.c.b7] rfl Try.underlying25 rfl (by kernel_rfl) ?_) | (refine big_load rfl 25 _ rfl gK1 23 rfl K1.out [.int .u8 a.rc.c.b0, .int .u8 a.rc.c.b1, .int .u8 a.rc.c.b2, .int .u8 a.rc.c.b3, .int .u8 a.rc.c.b4, .int .u8 a.rc.c.b5, .int .u8 a.rc.c.b6, .int .u8 a.rc.c.b7] rfl Try.underlying25 rfl (by kernel_rfl) ?_) | (refine big_cmp rfl .neq 25 _ _ _ rfl (#[.int .u8 a.gr.b0, .int .u8 a.gr.b1, .int .u8 a.gr.b2, .int .u8 a.gr.b3, .int .u8 a.gr.b4, .int .u8 a.gr.b5, .int .u8 a.gr.b6, .int .u8 a.gr.b7]) (#[.int .u8 b.gr.b0, .int .u8 b.gr.b1, .int .u8 b.gr.b2, .int .u8 b.gr.b3, .int .u8 b.gr.b4, .int .u8 b.gr.b5, .int .u8 b.gr.b6, .int .u8 b.gr.b7]) rfl rfl (by kernel_rfl) false (fun v => (neq_clock a.gr b.gr v).trans (by rw [HG.out]; rfl)) ?_) | (refine big_load rfl 25 _ rfl gK2 5 rfl K2.out [.int .u8 b.gr.b0, .int .u8 b.gr.b1, .int .u8 b.gr.b2, .int .u8 b.gr.b3, .int .u8 b.gr.b4, .int .u8 b.gr.b5, .int .u8 b.gr.b6, .int .u8 b.gr.b7] rfl Try.underlying25 rfl (by kernel_rfl) ?_) | (refine big_load rfl 25 _ rfl gK1 5 rfl K1.out [.int .u8 a.gr.b0, .int .u8 a.gr.b1, .int .u8 a.gr.b2, .int .u8 a.gr.b3, .int .u8 a.gr.b4, .int .u8 a.gr.b5, .int .u8 a.gr.b6, .int .u8 a.gr.b7] rfl Try.underlying25 rfl (by kernel_rfl) ?_) | (refine big_box rfl 29 _ rfl (rsA b) rfl (by kernel_rfl) ?_; intro gK2 wK2 hlK2 nK2 hbK2; have K2 := Lib.hid nK2; have LK2 := Lib.hid (Nat.le_trans (HB.out).size hlK2); have NK1K2 := Lib.hid (show gK1 ≠ gK2 by have := (K1.out).inside; omega); replace K1 := Lib.hid ((K1.out).keptB hbK2); replace HB := Lib.hid (bstep HB.out hbK2); clear hlK2 nK2 hbK2; have K1x13 := (K1.out).reads (i := 13) (x := .int .i64 a.st) rfl; have K1x31 := (K1.out).reads (i := 31) (x := .int .i64 a.rc.n) rfl; have K2x13 := (K2.out).reads (i := 13) (x := .int .i64 b.st) rfl; have K2x31 := (K2.out).reads (i := 31) (x := .int .i64 b.rc.n) rfl) | (refine big_box rfl 29 _ rfl (rsA a) rfl (by kernel_rfl) ?_; intro gK1 wK1 hlK1 nK1 hbK1; have K1 := Lib.hid nK1; have LK1 := Lib.hid (Nat.le_trans (HB.out).size hlK1); replace HB := Lib.hid (bstep HB.out hbK1); clear hlK1 nK1 hbK1))
    go_ret
    exact ⟨ret_int (by rw [HY.out, HX.out]), HB.out⟩
  · obtain ⟨m, HM⟩ : ∃ m, Hid (cmpC a.rc.c a.sn.c = m) := ⟨_, Lib.hid rfl⟩
    have hbd : -1 ≤ m ∧ m ≤ 1 := by rw [← HM.out]; exact cmpL_bd _ _
    by_cases e1 : m = -1
    · have HY : Hid (compN a b = farN a b.st) := by unfold compN; rw [Hid, if_neg (by rw [HG.out]; simp), if_pos h1]
      have d0 : (a.st - 1 != b.st) = false := by simp; omega
      have HX : Hid (farN a b.st = 3) := by unfold farN; rw [Hid, if_neg hc, HM.out, if_pos e1]
      have d3 : decide (m < 0) = true := by simp; omega
      have d1 : decide (a.st < b.st) = false := by simp; omega
      have d2 : decide (b.st < a.st) = true := by simpa using h1
      have b1 : -9223372036854775808 ≤ a.st - 1 := by have := (OB.out).lo; omega
      have b2 := (OA.out).hi
      clear h1 hc e1 hbd
      go_enter Try.func29, Try.ntmps29
      go_wp2_with (first | (refine big_load rfl 25 _ rfl gK1 14 rfl K1.out [.int .u8 a.sn.c.b0, .int .u8 a.sn.c.b1, .int .u8 a.sn.c.b2, .int .u8 a.sn.c.b3, .int .u8 a.sn.c.b4, .int .u8 a.sn.c.b5, .int .u8 a.sn.c.b6, .int .u8 a.sn.c.b7] rfl Try.underlying25 rfl (by kernel_rfl) ?_) | (refine big_load rfl 25 _ rfl gK1 23 rfl K1.out [.int .u8 a.rc.c.b0, .int .u8 a.rc.c.b1, .int .u8 a.rc.c.b2, .int .u8 a.rc.c.b3, .int .u8 a.rc.c.b4, .int .u8 a.rc.c.b5, .int .u8 a.rc.c.b6, .int .u8 a.rc.c.b7] rfl Try.underlying25 rfl (by kernel_rfl) ?_) | (refine big_cmp rfl .neq 25 _ _ _ rfl (#[.int .u8 a.gr.b0, .int .u8 a.gr.b1, .int .u8 a.gr.b2, .int .u8 a.gr.b3, .int .u8 a.gr.b4, .int .u8 a.gr.b5, .int .u8 a.gr.b6, .int .u8 a.gr.b7]) (#[.int .u8 b.gr.b0, .int .u8 b.gr.b1, .int .u8 b.gr.b2, .int .u8 b.gr.b3, .int .u8 b.gr.b4, .int .u8 b.gr.b5, .int .u8 b.gr.b6, .int .u8 b.gr.b7]) rfl rfl (by kernel_rfl) false (fun v => (neq_clock a.gr b.gr v).trans (by rw [HG.out]; rfl)) ?_) | (refine big_load rfl 25 _ rfl gK2 5 rfl K2.out [.int .u8 b.gr.b0, .int .u8 b.gr.b1, .int .u8 b.gr.b2, .int .u8 b.gr.b3, .int .u8 b.gr.b4, .int .u8 b.gr.b5, .int .u8 b.gr.b6, .int .u8 b.gr.b7] rfl Try.underlying25 rfl (by kernel_rfl) ?_) | (refine big_load rfl 25 _ rfl gK1 5 rfl K1.out [.int .u8 a.gr.b0, .int .u8 a.gr.b1, .int .u8 a.gr.b2, .int .u8 a.gr.b3, .int .u8 a.gr.b4, .int .u8 a.gr.b5, .int .u8 a.gr.b6, .int .u8 a.gr.b7] rfl Try.underlying25 rfl (by kernel_rfl) ?_) | (refine big_box rfl 29 _ rfl (rsA b) rfl (by kernel_rfl) ?_; intro gK2 wK2 hlK2 nK2 hbK2; have K2 := Lib.hid nK2; have LK2 := Lib.hid (Nat.le_trans (HB.out).size hlK2); have NK1K2 := Lib.hid (show gK1 ≠ gK2 by have := (K1.out).inside; omega); replace K1 := Lib.hid ((K1.out).keptB hbK2); replace HB := Lib.hid (bstep HB.out hbK2); clear hlK2 nK2 hbK2; have K1x13 := (K1.out).reads (i := 13) (x := .int .i64 a.st) rfl; have K1x31 := (K1.out).reads (i := 31) (x := .int .i64 a.rc.n) rfl; have K2x13 := (K2.out).reads (i := 13) (x := .int .i64 b.st) rfl; have K2x31 := (K2.out).reads (i := 31) (x := .int .i64 b.rc.n) rfl) | (refine big_box rfl 29 _ rfl (rsA a) rfl (by kernel_rfl) ?_; intro gK1 wK1 hlK1 nK1 hbK1; have K1 := Lib.hid nK1; have LK1 := Lib.hid (Nat.le_trans (HB.out).size hlK1); replace HB := Lib.hid (bstep HB.out hbK1); clear hlK1 nK1 hbK1))
      clear K1x13 K1x31
      clear K2x13 K2x31
      refine (rcompare_any a.rc.c a.sn.c _).mono ?_
      rintro e w2 ⟨rfl, h2⟩
      rw [HM.out]
      replace HB := Lib.hid (bstep HB.out h2)
      clear h2
      go_wp2
      go_ret
      exact ⟨ret_int (by rw [HY.out, HX.out]), HB.out⟩
    · by_cases e2 : m = 1
      · have HY : Hid (compN a b = farN a b.st) := by unfold compN; rw [Hid, if_neg (by rw [HG.out]; simp), if_pos h1]
        have d0 : (a.st - 1 != b.st) = false := by simp; omega
        have HX : Hid (farN a b.st = 4) := by unfold farN; rw [Hid, if_neg hc, HM.out, if_neg e1, if_pos e2]
        have d3 : decide (m < 0) = false := by simp; omega
        have d4 : decide (0 < m) = true := by simp; omega
        have d1 : decide (a.st < b.st) = false := by simp; omega
        have d2 : decide (b.st < a.st) = true := by simpa using h1
        have b1 : -9223372036854775808 ≤ a.st - 1 := by have := (OB.out).lo; omega
        have b2 := (OA.out).hi
        clear h1 hc e1 e2 hbd
        go_enter Try.func29, Try.ntmps29
        go_wp2_with (first | (refine big_load rfl 25 _ rfl gK1 14 rfl K1.out [.int .u8 a.sn.c.b0, .int .u8 a.sn.c.b1, .int .u8 a.sn.c.b2, .int .u8 a.sn.c.b3, .int .u8 a.sn.c.b4, .int .u8 a.sn.c.b5, .int .u8 a.sn.c.b6, .int .u8 a.sn.c.b7] rfl Try.underlying25 rfl (by kernel_rfl) ?_) | (refine big_load rfl 25 _ rfl gK1 23 rfl K1.out [.int .u8 a.rc.c.b0, .int .u8 a.rc.c.b1, .int .u8 a.rc.c.b2, .int .u8 a.rc.c.b3, .int .u8 a.rc.c.b4, .int .u8 a.rc.c.b5, .int .u8 a.rc.c.b6, .int .u8 a.rc.c.b7] rfl Try.underlying25 rfl (by kernel_rfl) ?_) | (refine big_cmp rfl .neq 25 _ _ _ rfl (#[.int .u8 a.gr.b0, .int .u8 a.gr.b1, .int .u8 a.gr.b2, .int .u8 a.gr.b3, .int .u8 a.gr.b4, .int .u8 a.gr.b5, .int .u8 a.gr.b6, .int .u8 a.gr.b7]) (#[.int .u8 b.gr.b0, .int .u8 b.gr.b1, .int .u8 b.gr.b2, .int .u8 b.gr.b3, .int .u8 b.gr.b4, .int .u8 b.gr.b5, .int .u8 b.gr.b6, .int .u8 b.gr.b7]) rfl rfl (by kernel_rfl) false (fun v => (neq_clock a.gr b.gr v).trans (by rw [HG.out]; rfl)) ?_) | (refine big_load rfl 25 _ rfl gK2 5 rfl K2.out [.int .u8 b.gr.b0, .int .u8 b.gr.b1, .int .u8 b.gr.b2, .int .u8 b.gr.b3, .int .u8 b.gr.b4, .int .u8 b.gr.b5, .int .u8 b.gr.b6, .int .u8 b.gr.b7] rfl Try.underlying25 rfl (by kernel_rfl) ?_) | (refine big_load rfl 25 _ rfl gK1 5 rfl K1.out [.int .u8 a.gr.b0, .int .u8 a.gr.b1, .int .u8 a.gr.b2, .int .u8 a.gr.b3, .int .u8 a.gr.b4, .int .u8 a.gr.b5, .int .u8 a.gr.b6, .int .u8 a.gr.b7] rfl Try.underlying25 rfl (by kernel_rfl) ?_) | (refine big_box rfl 29 _ rfl (rsA b) rfl (by kernel_rfl) ?_; intro gK2 wK2 hlK2 nK2 hbK2; have K2 := Lib.hid nK2; have LK2 := Lib.hid (Nat.le_trans (HB.out).size hlK2); have NK1K2 := Lib.hid (show gK1 ≠ gK2 by have := (K1.out).inside; omega); replace K1 := Lib.hid ((K1.out).keptB hbK2); replace HB := Lib.hid (bstep HB.out hbK2); clear hlK2 nK2 hbK2; have K1x13 := (K1.out).reads (i := 13) (x := .int .i64 a.st) rfl; have K1x31 := (K1.out).reads (i := 31) (x := .int .i64 a.rc.n) rfl; have K2x13 := (K2.out).reads (i := 13) (x := .int .i64 b.st) rfl; have K2x31 := (K2.out).reads (i := 31) (x := .int .i64 b.rc.n) rfl) | (refine big_box rfl 29 _ rfl (rsA a) rfl (by kernel_rfl) ?_; intro gK1 wK1 hlK1 nK1 hbK1; have K1 := Lib.hid nK1; have LK1 := Lib.hid (Nat.le_trans (HB.out).size hlK1); replace HB := Lib.hid (bstep HB.out hbK1); clear hlK1 nK1 hbK1))
        clear K1x13 K1x31
        clear K2x13 K2x31
        refine (rcompare_any a.rc.c a.sn.c _).mono ?_
        rintro e w2 ⟨rfl, h2⟩
        rw [HM.out]
        replace HB := Lib.hid (bstep HB.out h2)
        clear h2
        go_wp2
        go_ret
        exact ⟨ret_int (by rw [HY.out, HX.out]), HB.out⟩
      · have HY : Hid (compN a b = farN a b.st) := by unfold compN; rw [Hid, if_neg (by rw [HG.out]; simp), if_pos h1]
        have d0 : (a.st - 1 != b.st) = false := by simp; omega
        have HX : Hid (farN a b.st = 5) := by unfold farN; rw [Hid, if_neg hc, HM.out, if_neg e1, if_neg e2]
        have d3 : decide (m < 0) = false := by simp; omega
        have d4 : decide (0 < m) = false := by simp; omega
        have d1 : decide (a.st < b.st) = false := by simp; omega
        have d2 : decide (b.st < a.st) = true := by simpa using h1
        have b1 : -9223372036854775808 ≤ a.st - 1 := by have := (OB.out).lo; omega
        have b2 := (OA.out).hi
        clear h1 hc e1 e2 hbd
        go_enter Try.func29, Try.ntmps29
        go_wp2_with (first | (refine big_load rfl 25 _ rfl gK1 14 rfl K1.out [.int .u8 a.sn.c.b0, .int .u8 a.sn.c.b1, .int .u8 a.sn.c.b2, .int .u8 a.sn.c.b3, .int .u8 a.sn.c.b4, .int .u8 a.sn.c.b5, .int .u8 a.sn.c.b6, .int .u8 a.sn.c.b7] rfl Try.underlying25 rfl (by kernel_rfl) ?_) | (refine big_load rfl 25 _ rfl gK1 23 rfl K1.out [.int .u8 a.rc.c.b0, .int .u8 a.rc.c.b1, .int .u8 a.rc.c.b2, .int .u8 a.rc.c.b3, .int .u8 a.rc.c.b4, .int .u8 a.rc.c.b5, .int .u8 a.rc.c.b6, .int .u8 a.rc.c.b7] rfl Try.underlying25 rfl (by kernel_rfl) ?_) | (refine big_cmp rfl .neq 25 _ _ _ rfl (#[.int .u8 a.gr.b0, .int .u8 a.gr.b1, .int .u8 a.gr.b2, .int .u8 a.gr.b3, .int .u8 a.gr.b4, .int .u8 a.gr.b5, .int .u8 a.gr.b6, .int .u8 a.gr.b7]) (#[.int .u8 b.gr.b0, .int .u8 b.gr.b1, .int .u8 b.gr.b2, .int .u8 b.gr.b3, .int .u8 b.gr.b4, .int .u8 b.gr.b5, .int .u8 b.gr.b6, .int .u8 b.gr.b7]) rfl rfl (by kernel_rfl) false (fun v => (neq_clock a.gr b.gr v).trans (by rw [HG.out]; rfl)) ?_) | (refine big_load rfl 25 _ rfl gK2 5 rfl K2.out [.int .u8 b.gr.b0, .int .u8 b.gr.b1, .int .u8 b.gr.b2, .int .u8 b.gr.b3, .int .u8 b.gr.b4, .int .u8 b.gr.b5, .int .u8 b.gr.b6, .int .u8 b.gr.b7] rfl Try.underlying25 rfl (by kernel_rfl) ?_) | (refine big_load rfl 25 _ rfl gK1 5 rfl K1.out [.int .u8 a.gr.b0, .int .u8 a.gr.b1, .int .u8 a.gr.b2, .int .u8 a.gr.b3, .int .u8 a.gr.b4, .int .u8 a.gr.b5, .int .u8 a.gr.b6, .int .u8 a.gr.b7] rfl Try.underlying25 rfl (by kernel_rfl) ?_) | (refine big_box rfl 29 _ rfl (rsA b) rfl (by kernel_rfl) ?_; intro gK2 wK2 hlK2 nK2 hbK2; have K2 := Lib.hid nK2; have LK2 := Lib.hid (Nat.le_trans (HB.out).size hlK2); have NK1K2 := Lib.hid (show gK1 ≠ gK2 by have := (K1.out).inside; omega); replace K1 := Lib.hid ((K1.out).keptB hbK2); replace HB := Lib.hid (bstep HB.out hbK2); clear hlK2 nK2 hbK2; have K1x13 := (K1.out).reads (i := 13) (x := .int .i64 a.st) rfl; have K1x31 := (K1.out).reads (i := 31) (x := .int .i64 a.rc.n) rfl; have K2x13 := (K2.out).reads (i := 13) (x := .int .i64 b.st) rfl; have K2x31 := (K2.out).reads (i := 31) (x := .int .i64 b.rc.n) rfl) | (refine big_box rfl 29 _ rfl (rsA a) rfl (by kernel_rfl) ?_; intro gK1 wK1 hlK1 nK1 hbK1; have K1 := Lib.hid nK1; have LK1 := Lib.hid (Nat.le_trans (HB.out).size hlK1); replace HB := Lib.hid (bstep HB.out hbK1); clear hlK1 nK1 hbK1))
        clear K1x13 K1x31
        clear K2x13 K2x31
        refine (rcompare_any a.rc.c a.sn.c _).mono ?_
        rintro e w2 ⟨rfl, h2⟩
        rw [HM.out]
        replace HB := Lib.hid (bstep HB.out h2)
        clear h2
        go_wp2
        go_ret
        exact ⟨ret_int (by rw [HY.out, HX.out]), HB.out⟩
set_option maxHeartbeats 4000000 in
theorem rcomp_way (a b : Rs) (w : World) (ha : a.ok) (hb : b.ok) (hg : eqC a.gr b.gr = true) (h1 : ¬ b.st < a.st) (h3 : ¬ a.st < b.st) :
    Calls Try.prog 29 #[.agg (rsA a), .agg (rsA b)] w fun e w' => e = .returned (.int .i64 (compN a b)) ∧ Below w.heap.size w w' := by
  have HB := Lib.hid (Below.refl w.heap.size w)
  have OA := Lib.hid ha
  have OB := Lib.hid hb
  clear ha hb
  have HG := Lib.hid hg
  clear hg
  obtain ⟨m, HM⟩ : ∃ m, Hid (cmpP a.sn b.sn = m) := ⟨_, Lib.hid rfl⟩
  have hbd : -1 ≤ m ∧ m ≤ 1 := by rw [← HM.out]; exact cmpP_bd _ _
  rcases Int.lt_trichotomy m 0 with hm | hm | hm
  · have HY : Hid (compN a b = wayN a b) := by unfold compN; rw [Hid, if_neg (by rw [HG.out]; simp), if_neg (by omega), if_neg (by omega)]
    have HI : wayI a b = m := by unfold wayI; rw [HM.out, if_neg (by omega)]
    have HX : Hid (wayN a b = 2) := by unfold wayN; rw [Hid, HI, if_pos (by omega)]
    clear HI
    have d1 : decide (a.st < b.st) = false := by simp; omega
    have d2 : decide (b.st < a.st) = false := by simp; omega
    have d3 : decide (m < 0) = true := by simp; omega
    clear h1 h3 hm hbd
    go_enter Try.func29, Try.ntmps29
    go_wp2_with (first | (refine big_load rfl 27 _ rfl gK2 14 rfl K2.out [.int .u8 b.sn.c.b0, .int .u8 b.sn.c.b1, .int .u8 b.sn.c.b2, .int .u8 b.sn.c.b3, .int .u8 b.sn.c.b4, .int .u8 b.sn.c.b5, .int .u8 b.sn.c.b6, .int .u8 b.sn.c.b7, .int .i64 b.sn.n] rfl Try.underlying27 rfl (by kernel_rfl) ?_) | (refine big_load rfl 27 _ rfl gK1 14 rfl K1.out [.int .u8 a.sn.c.b0, .int .u8 a.sn.c.b1, .int .u8 a.sn.c.b2, .int .u8 a.sn.c.b3, .int .u8 a.sn.c.b4, .int .u8 a.sn.c.b5, .int .u8 a.sn.c.b6, .int .u8 a.sn.c.b7, .int .i64 a.sn.n] rfl Try.underlying27 rfl (by kernel_rfl) ?_) | (refine big_cmp rfl .neq 25 _ _ _ rfl (#[.int .u8 a.gr.b0, .int .u8 a.gr.b1, .int .u8 a.gr.b2, .int .u8 a.gr.b3, .int .u8 a.gr.b4, .int .u8 a.gr.b5, .int .u8 a.gr.b6, .int .u8 a.gr.b7]) (#[.int .u8 b.gr.b0, .int .u8 b.gr.b1, .int .u8 b.gr.b2, .int .u8 b.gr.b3, .int .u8 b.gr.b4, .int .u8 b.gr.b5, .int .u8 b.gr.b6, .int .u8 b.gr.b7]) rfl rfl (by kernel_rfl) false (fun v => (neq_clock a.gr b.gr v).trans (by rw [HG.out]; rfl)) ?_) | (refine big_load rfl 25 _ rfl gK2 5 rfl K2.out [.int .u8 b.gr.b0, .int .u8 b.gr.b1, .int .u8 b.gr.b2, .int .u8 b.gr.b3, .int .u8 b.gr.b4, .int .u8 b.gr.b5, .int .u8 b.gr.b6, .int .u8 b.gr.b7] rfl Try.underlying25 rfl (by kernel_rfl) ?_) | (refine big_load rfl 25 _ rfl gK1 5 rfl K1.out [.int .u8 a.gr.b0, .int .u8 a.gr.b1, .int .u8 a.gr.b2, .int .u8 a.gr.b3, .int .u8 a.gr.b4, .int .u8 a.gr.b5, .int .u8 a.gr.b6, .int .u8 a.gr.b7] rfl Try.underlying25 rfl (by kernel_rfl) ?_) | (refine big_box rfl 29 _ rfl (rsA b) rfl (by kernel_rfl) ?_; intro gK2 wK2 hlK2 nK2 hbK2; have K2 := Lib.hid nK2; have LK2 := Lib.hid (Nat.le_trans (HB.out).size hlK2); have NK1K2 := Lib.hid (show gK1 ≠ gK2 by have := (K1.out).inside; omega); replace K1 := Lib.hid ((K1.out).keptB hbK2); replace HB := Lib.hid (bstep HB.out hbK2); clear hlK2 nK2 hbK2; have K1x13 := (K1.out).reads (i := 13) (x := .int .i64 a.st) rfl; have K1x31 := (K1.out).reads (i := 31) (x := .int .i64 a.rc.n) rfl; have K2x13 := (K2.out).reads (i := 13) (x := .int .i64 b.st) rfl; have K2x31 := (K2.out).reads (i := 31) (x := .int .i64 b.rc.n) rfl) | (refine big_box rfl 29 _ rfl (rsA a) rfl (by kernel_rfl) ?_; intro gK1 wK1 hlK1 nK1 hbK1; have K1 := Lib.hid nK1; have LK1 := Lib.hid (Nat.le_trans (HB.out).size hlK1); replace HB := Lib.hid (bstep HB.out hbK1); clear hlK1 nK1 hbK1))
    clear K1x13 K1x31
    clear K2x13 K2x31
    refine (rports_any a.sn b.sn _ (OA.out).s (OB.out).s).mono ?_
    rintro e w1 ⟨rfl, h1⟩
    rw [HM.out]
    replace K1 := Lib.hid ((K1.out).keptB h1)
    replace K2 := Lib.hid ((K2.out).keptB h1)
    replace HB := Lib.hid (bstep HB.out h1)
    clear h1
    have K1x13 := (K1.out).reads (i := 13) (x := .int .i64 a.st) rfl
    have K1x31 := (K1.out).reads (i := 31) (x := .int .i64 a.rc.n) rfl
    have K2x13 := (K2.out).reads (i := 13) (x := .int .i64 b.st) rfl
    have K2x31 := (K2.out).reads (i := 31) (x := .int .i64 b.rc.n) rfl
    go_wp2
    go_ret
    exact ⟨ret_int (by rw [HY.out, HX.out]), HB.out⟩
  · rcases Int.lt_trichotomy a.rc.n b.rc.n with hr | hr | hr
    · have HY : Hid (compN a b = wayN a b) := by unfold compN; rw [Hid, if_neg (by rw [HG.out]; simp), if_neg (by omega), if_neg (by omega)]
      have HI : wayI a b = cmpI a.rc.n b.rc.n := by unfold wayI; rw [HM.out, if_pos hm]
      have HX : Hid (wayN a b = 2) := by unfold wayN; rw [Hid, HI]; unfold cmpI; simp [hr]
      clear HI
      have d1 : decide (a.st < b.st) = false := by simp; omega
      have d2 : decide (b.st < a.st) = false := by simp; omega
      have d3 : decide (m < 0) = false := by simp; omega
      have d4 : (m == 0) = true := by simp; omega
      have d5 : decide (0 < m) = false := by simp; omega
      have d6 : decide (a.rc.n < b.rc.n) = true := by simp; omega
      clear h1 h3 hm hbd hr
      go_enter Try.func29, Try.ntmps29
      go_wp2_with (first | (refine big_load rfl 27 _ rfl gK2 14 rfl K2.out [.int .u8 b.sn.c.b0, .int .u8 b.sn.c.b1, .int .u8 b.sn.c.b2, .int .u8 b.sn.c.b3, .int .u8 b.sn.c.b4, .int .u8 b.sn.c.b5, .int .u8 b.sn.c.b6, .int .u8 b.sn.c.b7, .int .i64 b.sn.n] rfl Try.underlying27 rfl (by kernel_rfl) ?_) | (refine big_load rfl 27 _ rfl gK1 14 rfl K1.out [.int .u8 a.sn.c.b0, .int .u8 a.sn.c.b1, .int .u8 a.sn.c.b2, .int .u8 a.sn.c.b3, .int .u8 a.sn.c.b4, .int .u8 a.sn.c.b5, .int .u8 a.sn.c.b6, .int .u8 a.sn.c.b7, .int .i64 a.sn.n] rfl Try.underlying27 rfl (by kernel_rfl) ?_) | (refine big_cmp rfl .neq 25 _ _ _ rfl (#[.int .u8 a.gr.b0, .int .u8 a.gr.b1, .int .u8 a.gr.b2, .int .u8 a.gr.b3, .int .u8 a.gr.b4, .int .u8 a.gr.b5, .int .u8 a.gr.b6, .int .u8 a.gr.b7]) (#[.int .u8 b.gr.b0, .int .u8 b.gr.b1, .int .u8 b.gr.b2, .int .u8 b.gr.b3, .int .u8 b.gr.b4, .int .u8 b.gr.b5, .int .u8 b.gr.b6, .int .u8 b.gr.b7]) rfl rfl (by kernel_rfl) false (fun v => (neq_clock a.gr b.gr v).trans (by rw [HG.out]; rfl)) ?_) | (refine big_load rfl 25 _ rfl gK2 5 rfl K2.out [.int .u8 b.gr.b0, .int .u8 b.gr.b1, .int .u8 b.gr.b2, .int .u8 b.gr.b3, .int .u8 b.gr.b4, .int .u8 b.gr.b5, .int .u8 b.gr.b6, .int .u8 b.gr.b7] rfl Try.underlying25 rfl (by kernel_rfl) ?_) | (refine big_load rfl 25 _ rfl gK1 5 rfl K1.out [.int .u8 a.gr.b0, .int .u8 a.gr.b1, .int .u8 a.gr.b2, .int .u8 a.gr.b3, .int .u8 a.gr.b4, .int .u8 a.gr.b5, .int .u8 a.gr.b6, .int .u8 a.gr.b7] rfl Try.underlying25 rfl (by kernel_rfl) ?_) | (refine big_box rfl 29 _ rfl (rsA b) rfl (by kernel_rfl) ?_; intro gK2 wK2 hlK2 nK2 hbK2; have K2 := Lib.hid nK2; have LK2 := Lib.hid (Nat.le_trans (HB.out).size hlK2); have NK1K2 := Lib.hid (show gK1 ≠ gK2 by have := (K1.out).inside; omega); replace K1 := Lib.hid ((K1.out).keptB hbK2); replace HB := Lib.hid (bstep HB.out hbK2); clear hlK2 nK2 hbK2; have K1x13 := (K1.out).reads (i := 13) (x := .int .i64 a.st) rfl; have K1x31 := (K1.out).reads (i := 31) (x := .int .i64 a.rc.n) rfl; have K2x13 := (K2.out).reads (i := 13) (x := .int .i64 b.st) rfl; have K2x31 := (K2.out).reads (i := 31) (x := .int .i64 b.rc.n) rfl) | (refine big_box rfl 29 _ rfl (rsA a) rfl (by kernel_rfl) ?_; intro gK1 wK1 hlK1 nK1 hbK1; have K1 := Lib.hid nK1; have LK1 := Lib.hid (Nat.le_trans (HB.out).size hlK1); replace HB := Lib.hid (bstep HB.out hbK1); clear hlK1 nK1 hbK1))
      clear K1x13 K1x31
      clear K2x13 K2x31
      refine (rports_any a.sn b.sn _ (OA.out).s (OB.out).s).mono ?_
      rintro e w1 ⟨rfl, h1⟩
      rw [HM.out]
      replace K1 := Lib.hid ((K1.out).keptB h1)
      replace K2 := Lib.hid ((K2.out).keptB h1)
      replace HB := Lib.hid (bstep HB.out h1)
      clear h1
      have K1x13 := (K1.out).reads (i := 13) (x := .int .i64 a.st) rfl
      have K1x31 := (K1.out).reads (i := 31) (x := .int .i64 a.rc.n) rfl
      have K2x13 := (K2.out).reads (i := 13) (x := .int .i64 b.st) rfl
      have K2x31 := (K2.out).reads (i := 31) (x := .int .i64 b.rc.n) rfl
      go_wp2
      go_ret
      exact ⟨ret_int (by rw [HY.out, HX.out]), HB.out⟩
    · have HY : Hid (compN a b = wayN a b) := by unfold compN; rw [Hid, if_neg (by rw [HG.out]; simp), if_neg (by omega), if_neg (by omega)]
      have HI : wayI a b = cmpI a.rc.n b.rc.n := by unfold wayI; rw [HM.out, if_pos hm]
      have HX : Hid (wayN a b = 6) := by unfold wayN; rw [Hid, HI]; unfold cmpI; simp [show ¬ a.rc.n < b.rc.n by omega, show ¬ b.rc.n < a.rc.n by omega]
      clear HI
      have d1 : decide (a.st < b.st) = false := by simp; omega
      have d2 : decide (b.st < a.st) = false := by simp; omega
      have d3 : decide (m < 0) = false := by simp; omega
      have d4 : (m == 0) = true := by simp; omega
      have d5 : decide (0 < m) = false := by simp; omega
      have d6 : decide (a.rc.n < b.rc.n) = false := by simp; omega
      have d7 : decide (b.rc.n < a.rc.n) = false := by simp; omega
      clear h1 h3 hm hbd hr
      go_enter Try.func29, Try.ntmps29
      go_wp2_with (first | (refine big_load rfl 27 _ rfl gK2 14 rfl K2.out [.int .u8 b.sn.c.b0, .int .u8 b.sn.c.b1, .int .u8 b.sn.c.b2, .int .u8 b.sn.c.b3, .int .u8 b.sn.c.b4, .int .u8 b.sn.c.b5, .int .u8 b.sn.c.b6, .int .u8 b.sn.c.b7, .int .i64 b.sn.n] rfl Try.underlying27 rfl (by kernel_rfl) ?_) | (refine big_load rfl 27 _ rfl gK1 14 rfl K1.out [.int .u8 a.sn.c.b0, .int .u8 a.sn.c.b1, .int .u8 a.sn.c.b2, .int .u8 a.sn.c.b3, .int .u8 a.sn.c.b4, .int .u8 a.sn.c.b5, .int .u8 a.sn.c.b6, .int .u8 a.sn.c.b7, .int .i64 a.sn.n] rfl Try.underlying27 rfl (by kernel_rfl) ?_) | (refine big_cmp rfl .neq 25 _ _ _ rfl (#[.int .u8 a.gr.b0, .int .u8 a.gr.b1, .int .u8 a.gr.b2, .int .u8 a.gr.b3, .int .u8 a.gr.b4, .int .u8 a.gr.b5, .int .u8 a.gr.b6, .int .u8 a.gr.b7]) (#[.int .u8 b.gr.b0, .int .u8 b.gr.b1, .int .u8 b.gr.b2, .int .u8 b.gr.b3, .int .u8 b.gr.b4, .int .u8 b.gr.b5, .int .u8 b.gr.b6, .int .u8 b.gr.b7]) rfl rfl (by kernel_rfl) false (fun v => (neq_clock a.gr b.gr v).trans (by rw [HG.out]; rfl)) ?_) | (refine big_load rfl 25 _ rfl gK2 5 rfl K2.out [.int .u8 b.gr.b0, .int .u8 b.gr.b1, .int .u8 b.gr.b2, .int .u8 b.gr.b3, .int .u8 b.gr.b4, .int .u8 b.gr.b5, .int .u8 b.gr.b6, .int .u8 b.gr.b7] rfl Try.underlying25 rfl (by kernel_rfl) ?_) | (refine big_load rfl 25 _ rfl gK1 5 rfl K1.out [.int .u8 a.gr.b0, .int .u8 a.gr.b1, .int .u8 a.gr.b2, .int .u8 a.gr.b3, .int .u8 a.gr.b4, .int .u8 a.gr.b5, .int .u8 a.gr.b6, .int .u8 a.gr.b7] rfl Try.underlying25 rfl (by kernel_rfl) ?_) | (refine big_box rfl 29 _ rfl (rsA b) rfl (by kernel_rfl) ?_; intro gK2 wK2 hlK2 nK2 hbK2; have K2 := Lib.hid nK2; have LK2 := Lib.hid (Nat.le_trans (HB.out).size hlK2); have NK1K2 := Lib.hid (show gK1 ≠ gK2 by have := (K1.out).inside; omega); replace K1 := Lib.hid ((K1.out).keptB hbK2); replace HB := Lib.hid (bstep HB.out hbK2); clear hlK2 nK2 hbK2; have K1x13 := (K1.out).reads (i := 13) (x := .int .i64 a.st) rfl; have K1x31 := (K1.out).reads (i := 31) (x := .int .i64 a.rc.n) rfl; have K2x13 := (K2.out).reads (i := 13) (x := .int .i64 b.st) rfl; have K2x31 := (K2.out).reads (i := 31) (x := .int .i64 b.rc.n) rfl) | (refine big_box rfl 29 _ rfl (rsA a) rfl (by kernel_rfl) ?_; intro gK1 wK1 hlK1 nK1 hbK1; have K1 := Lib.hid nK1; have LK1 := Lib.hid (Nat.le_trans (HB.out).size hlK1); replace HB := Lib.hid (bstep HB.out hbK1); clear hlK1 nK1 hbK1))
      clear K1x13 K1x31
      clear K2x13 K2x31
      refine (rports_any a.sn b.sn _ (OA.out).s (OB.out).s).mono ?_
      rintro e w1 ⟨rfl, h1⟩
      rw [HM.out]
      replace K1 := Lib.hid ((K1.out).keptB h1)
      replace K2 := Lib.hid ((K2.out).keptB h1)
      replace HB := Lib.hid (bstep HB.out h1)
      clear h1
      have K1x13 := (K1.out).reads (i := 13) (x := .int .i64 a.st) rfl
      have K1x31 := (K1.out).reads (i := 31) (x := .int .i64 a.rc.n) rfl
      have K2x13 := (K2.out).reads (i := 13) (x := .int .i64 b.st) rfl
      have K2x31 := (K2.out).reads (i := 31) (x := .int .i64 b.rc.n) rfl
      go_wp2
      go_ret
      exact ⟨ret_int (by rw [HY.out, HX.out]), HB.out⟩
    · have HY : Hid (compN a b = wayN a b) := by unfold compN; rw [Hid, if_neg (by rw [HG.out]; simp), if_neg (by omega), if_neg (by omega)]
      have HI : wayI a b = cmpI a.rc.n b.rc.n := by unfold wayI; rw [HM.out, if_pos hm]
      have HX : Hid (wayN a b = 4) := by unfold wayN; rw [Hid, HI]; unfold cmpI; simp [hr, show ¬ a.rc.n < b.rc.n by omega]
      clear HI
      have d1 : decide (a.st < b.st) = false := by simp; omega
      have d2 : decide (b.st < a.st) = false := by simp; omega
      have d3 : decide (m < 0) = false := by simp; omega
      have d4 : (m == 0) = true := by simp; omega
      have d5 : decide (0 < m) = false := by simp; omega
      have d6 : decide (a.rc.n < b.rc.n) = false := by simp; omega
      have d7 : decide (b.rc.n < a.rc.n) = true := by simp; omega
      clear h1 h3 hm hbd hr
      go_enter Try.func29, Try.ntmps29
      go_wp2_with (first | (refine big_load rfl 27 _ rfl gK2 14 rfl K2.out [.int .u8 b.sn.c.b0, .int .u8 b.sn.c.b1, .int .u8 b.sn.c.b2, .int .u8 b.sn.c.b3, .int .u8 b.sn.c.b4, .int .u8 b.sn.c.b5, .int .u8 b.sn.c.b6, .int .u8 b.sn.c.b7, .int .i64 b.sn.n] rfl Try.underlying27 rfl (by kernel_rfl) ?_) | (refine big_load rfl 27 _ rfl gK1 14 rfl K1.out [.int .u8 a.sn.c.b0, .int .u8 a.sn.c.b1, .int .u8 a.sn.c.b2, .int .u8 a.sn.c.b3, .int .u8 a.sn.c.b4, .int .u8 a.sn.c.b5, .int .u8 a.sn.c.b6, .int .u8 a.sn.c.b7, .int .i64 a.sn.n] rfl Try.underlying27 rfl (by kernel_rfl) ?_) | (refine big_cmp rfl .neq 25 _ _ _ rfl (#[.int .u8 a.gr.b0, .int .u8 a.gr.b1, .int .u8 a.gr.b2, .int .u8 a.gr.b3, .int .u8 a.gr.b4, .int .u8 a.gr.b5, .int .u8 a.gr.b6, .int .u8 a.gr.b7]) (#[.int .u8 b.gr.b0, .int .u8 b.gr.b1, .int .u8 b.gr.b2, .int .u8 b.gr.b3, .int .u8 b.gr.b4, .int .u8 b.gr.b5, .int .u8 b.gr.b6, .int .u8 b.gr.b7]) rfl rfl (by kernel_rfl) false (fun v => (neq_clock a.gr b.gr v).trans (by rw [HG.out]; rfl)) ?_) | (refine big_load rfl 25 _ rfl gK2 5 rfl K2.out [.int .u8 b.gr.b0, .int .u8 b.gr.b1, .int .u8 b.gr.b2, .int .u8 b.gr.b3, .int .u8 b.gr.b4, .int .u8 b.gr.b5, .int .u8 b.gr.b6, .int .u8 b.gr.b7] rfl Try.underlying25 rfl (by kernel_rfl) ?_) | (refine big_load rfl 25 _ rfl gK1 5 rfl K1.out [.int .u8 a.gr.b0, .int .u8 a.gr.b1, .int .u8 a.gr.b2, .int .u8 a.gr.b3, .int .u8 a.gr.b4, .int .u8 a.gr.b5, .int .u8 a.gr.b6, .int .u8 a.gr.b7] rfl Try.underlying25 rfl (by kernel_rfl) ?_) | (refine big_box rfl 29 _ rfl (rsA b) rfl (by kernel_rfl) ?_; intro gK2 wK2 hlK2 nK2 hbK2; have K2 := Lib.hid nK2; have LK2 := Lib.hid (Nat.le_trans (HB.out).size hlK2); have NK1K2 := Lib.hid (show gK1 ≠ gK2 by have := (K1.out).inside; omega); replace K1 := Lib.hid ((K1.out).keptB hbK2); replace HB := Lib.hid (bstep HB.out hbK2); clear hlK2 nK2 hbK2; have K1x13 := (K1.out).reads (i := 13) (x := .int .i64 a.st) rfl; have K1x31 := (K1.out).reads (i := 31) (x := .int .i64 a.rc.n) rfl; have K2x13 := (K2.out).reads (i := 13) (x := .int .i64 b.st) rfl; have K2x31 := (K2.out).reads (i := 31) (x := .int .i64 b.rc.n) rfl) | (refine big_box rfl 29 _ rfl (rsA a) rfl (by kernel_rfl) ?_; intro gK1 wK1 hlK1 nK1 hbK1; have K1 := Lib.hid nK1; have LK1 := Lib.hid (Nat.le_trans (HB.out).size hlK1); replace HB := Lib.hid (bstep HB.out hbK1); clear hlK1 nK1 hbK1))
      clear K1x13 K1x31
      clear K2x13 K2x31
      refine (rports_any a.sn b.sn _ (OA.out).s (OB.out).s).mono ?_
      rintro e w1 ⟨rfl, h1⟩
      rw [HM.out]
      replace K1 := Lib.hid ((K1.out).keptB h1)
      replace K2 := Lib.hid ((K2.out).keptB h1)
      replace HB := Lib.hid (bstep HB.out h1)
      clear h1
      have K1x13 := (K1.out).reads (i := 13) (x := .int .i64 a.st) rfl
      have K1x31 := (K1.out).reads (i := 31) (x := .int .i64 a.rc.n) rfl
      have K2x13 := (K2.out).reads (i := 13) (x := .int .i64 b.st) rfl
      have K2x31 := (K2.out).reads (i := 31) (x := .int .i64 b.rc.n) rfl
      go_wp2
      go_ret
      exact ⟨ret_int (by rw [HY.out, HX.out]), HB.out⟩
  · have HY : Hid (compN a b = wayN a b) := by unfold compN; rw [Hid, if_neg (by rw [HG.out]; simp), if_neg (by omega), if_neg (by omega)]
    have HI : wayI a b = m := by unfold wayI; rw [HM.out, if_neg (by omega)]
    have HX : Hid (wayN a b = 4) := by unfold wayN; rw [Hid, HI, if_neg (by omega), if_pos (by omega)]
    clear HI
    have d1 : decide (a.st < b.st) = false := by simp; omega
    have d2 : decide (b.st < a.st) = false := by simp; omega
    have d3 : decide (m < 0) = false := by simp; omega
    have d4 : (m == 0) = false := by simp; omega
    have d5 : decide (0 < m) = true := by simp; omega
    clear h1 h3 hm hbd
    go_enter Try.func29, Try.ntmps29
    go_wp2_with (first | (refine big_load rfl 27 _ rfl gK2 14 rfl K2.out [.int .u8 b.sn.c.b0, .int .u8 b.sn.c.b1, .int .u8 b.sn.c.b2, .int .u8 b.sn.c.b3, .int .u8 b.sn.c.b4, .int .u8 b.sn.c.b5, .int .u8 b.sn.c.b6, .int .u8 b.sn.c.b7, .int .i64 b.sn.n] rfl Try.underlying27 rfl (by kernel_rfl) ?_) | (refine big_load rfl 27 _ rfl gK1 14 rfl K1.out [.int .u8 a.sn.c.b0, .int .u8 a.sn.c.b1, .int .u8 a.sn.c.b2, .int .u8 a.sn.c.b3, .int .u8 a.sn.c.b4, .int .u8 a.sn.c.b5, .int .u8 a.sn.c.b6, .int .u8 a.sn.c.b7, .int .i64 a.sn.n] rfl Try.underlying27 rfl (by kernel_rfl) ?_) | (refine big_cmp rfl .neq 25 _ _ _ rfl (#[.int .u8 a.gr.b0, .int .u8 a.gr.b1, .int .u8 a.gr.b2, .int .u8 a.gr.b3, .int .u8 a.gr.b4, .int .u8 a.gr.b5, .int .u8 a.gr.b6, .int .u8 a.gr.b7]) (#[.int .u8 b.gr.b0, .int .u8 b.gr.b1, .int .u8 b.gr.b2, .int .u8 b.gr.b3, .int .u8 b.gr.b4, .int .u8 b.gr.b5, .int .u8 b.gr.b6, .int .u8 b.gr.b7]) rfl rfl (by kernel_rfl) false (fun v => (neq_clock a.gr b.gr v).trans (by rw [HG.out]; rfl)) ?_) | (refine big_load rfl 25 _ rfl gK2 5 rfl K2.out [.int .u8 b.gr.b0, .int .u8 b.gr.b1, .int .u8 b.gr.b2, .int .u8 b.gr.b3, .int .u8 b.gr.b4, .int .u8 b.gr.b5, .int .u8 b.gr.b6, .int .u8 b.gr.b7] rfl Try.underlying25 rfl (by kernel_rfl) ?_) | (refine big_load rfl 25 _ rfl gK1 5 rfl K1.out [.int .u8 a.gr.b0, .int .u8 a.gr.b1, .int .u8 a.gr.b2, .int .u8 a.gr.b3, .int .u8 a.gr.b4, .int .u8 a.gr.b5, .int .u8 a.gr.b6, .int .u8 a.gr.b7] rfl Try.underlying25 rfl (by kernel_rfl) ?_) | (refine big_box rfl 29 _ rfl (rsA b) rfl (by kernel_rfl) ?_; intro gK2 wK2 hlK2 nK2 hbK2; have K2 := Lib.hid nK2; have LK2 := Lib.hid (Nat.le_trans (HB.out).size hlK2); have NK1K2 := Lib.hid (show gK1 ≠ gK2 by have := (K1.out).inside; omega); replace K1 := Lib.hid ((K1.out).keptB hbK2); replace HB := Lib.hid (bstep HB.out hbK2); clear hlK2 nK2 hbK2; have K1x13 := (K1.out).reads (i := 13) (x := .int .i64 a.st) rfl; have K1x31 := (K1.out).reads (i := 31) (x := .int .i64 a.rc.n) rfl; have K2x13 := (K2.out).reads (i := 13) (x := .int .i64 b.st) rfl; have K2x31 := (K2.out).reads (i := 31) (x := .int .i64 b.rc.n) rfl) | (refine big_box rfl 29 _ rfl (rsA a) rfl (by kernel_rfl) ?_; intro gK1 wK1 hlK1 nK1 hbK1; have K1 := Lib.hid nK1; have LK1 := Lib.hid (Nat.le_trans (HB.out).size hlK1); replace HB := Lib.hid (bstep HB.out hbK1); clear hlK1 nK1 hbK1))
    clear K1x13 K1x31
    clear K2x13 K2x31
    refine (rports_any a.sn b.sn _ (OA.out).s (OB.out).s).mono ?_
    rintro e w1 ⟨rfl, h1⟩
    rw [HM.out]
    replace K1 := Lib.hid ((K1.out).keptB h1)
    replace K2 := Lib.hid ((K2.out).keptB h1)
    replace HB := Lib.hid (bstep HB.out h1)
    clear h1
    have K1x13 := (K1.out).reads (i := 13) (x := .int .i64 a.st) rfl
    have K1x31 := (K1.out).reads (i := 31) (x := .int .i64 a.rc.n) rfl
    have K2x13 := (K2.out).reads (i := 13) (x := .int .i64 b.st) rfl
    have K2x31 := (K2.out).reads (i := 31) (x := .int .i64 b.rc.n) rfl
    go_wp2
    go_ret
    exact ⟨ret_int (by rw [HY.out, HX.out]), HB.out⟩
set_option maxHeartbeats 4000000 in
theorem rcomp_near (a b : Rs) (w : World) (ha : a.ok) (hb : b.ok) (hg : eqC a.gr b.gr = true) (h2 : a.st < b.st) :
    Calls Try.prog 29 #[.agg (rsA a), .agg (rsA b)] w fun e w' => e = .returned (.int .i64 (compN a b)) ∧ Below w.heap.size w w' := by
  have HB := Lib.hid (Below.refl w.heap.size w)
  have OA := Lib.hid ha
  have OB := Lib.hid hb
  clear ha hb
  have HG := Lib.hid hg
  clear hg
  have HX : Hid (compN a b = turnN (compN b a)) := Lib.hid (compN_turn b a)
  have HG2 : Hid (eqC b.gr a.gr = true) := by rw [Hid, eqC_comm]; exact HG.out
  have HLT := Lib.hid h2
  have d1 : decide (a.st < b.st) = true := by simpa using h2
  clear h2
  go_enter Try.func29, Try.ntmps29
  go_wp2_with (first | (refine big_whole rfl 29 _ rfl gK1 rfl K1.out Try.underlying29 rfl (by kernel_rfl) ?_) | (refine big_whole rfl 29 _ rfl gK2 rfl K2.out Try.underlying29 rfl (by kernel_rfl) ?_) | (refine big_cmp rfl .neq 25 _ _ _ rfl (#[.int .u8 a.gr.b0, .int .u8 a.gr.b1, .int .u8 a.gr.b2, .int .u8 a.gr.b3, .int .u8 a.gr.b4, .int .u8 a.gr.b5, .int .u8 a.gr.b6, .int .u8 a.gr.b7]) (#[.int .u8 b.gr.b0, .int .u8 b.gr.b1, .int .u8 b.gr.b2, .int .u8 b.gr.b3, .int .u8 b.gr.b4, .int .u8 b.gr.b5, .int .u8 b.gr.b6, .int .u8 b.gr.b7]) rfl rfl (by kernel_rfl) false (fun v => (neq_clock a.gr b.gr v).trans (by rw [HG.out]; rfl)) ?_) | (refine big_load rfl 25 _ rfl gK2 5 rfl K2.out [.int .u8 b.gr.b0, .int .u8 b.gr.b1, .int .u8 b.gr.b2, .int .u8 b.gr.b3, .int .u8 b.gr.b4, .int .u8 b.gr.b5, .int .u8 b.gr.b6, .int .u8 b.gr.b7] rfl Try.underlying25 rfl (by kernel_rfl) ?_) | (refine big_load rfl 25 _ rfl gK1 5 rfl K1.out [.int .u8 a.gr.b0, .int .u8 a.gr.b1, .int .u8 a.gr.b2, .int .u8 a.gr.b3, .int .u8 a.gr.b4, .int .u8 a.gr.b5, .int .u8 a.gr.b6, .int .u8 a.gr.b7] rfl Try.underlying25 rfl (by kernel_rfl) ?_) | (refine big_box rfl 29 _ rfl (rsA b) rfl (by kernel_rfl) ?_; intro gK2 wK2 hlK2 nK2 hbK2; have K2 := Lib.hid nK2; have LK2 := Lib.hid (Nat.le_trans (HB.out).size hlK2); have NK1K2 := Lib.hid (show gK1 ≠ gK2 by have := (K1.out).inside; omega); replace K1 := Lib.hid ((K1.out).keptB hbK2); replace HB := Lib.hid (bstep HB.out hbK2); clear hlK2 nK2 hbK2; have K1x13 := (K1.out).reads (i := 13) (x := .int .i64 a.st) rfl; have K2x13 := (K2.out).reads (i := 13) (x := .int .i64 b.st) rfl) | (refine big_box rfl 29 _ rfl (rsA a) rfl (by kernel_rfl) ?_; intro gK1 wK1 hlK1 nK1 hbK1; have K1 := Lib.hid nK1; have LK1 := Lib.hid (Nat.le_trans (HB.out).size hlK1); replace HB := Lib.hid (bstep HB.out hbK1); clear hlK1 nK1 hbK1))
  clear K1x13 K2x13
  refine (rcomp_far b a _ OB.out OA.out HG2.out HLT.out).mono ?_
  rintro e w1 ⟨rfl, h1⟩
  replace K1 := Lib.hid ((K1.out).keptB h1)
  replace K2 := Lib.hid ((K2.out).keptB h1)
  replace HB := Lib.hid (bstep HB.out h1)
  clear h1
  go_wp2_with fail
  refine (rturn_any _ _).mono ?_
  rintro e w2 ⟨rfl, rfl⟩
  go_wp2
  go_ret
  exact ⟨ret_int (by rw [HX.out]), HB.out⟩
theorem rcomp7_any (a b : Rs) (w : World) (ha : a.ok) (hb : b.ok) :
    Calls Try.prog 29 #[.agg (rsA a), .agg (rsA b)] w fun e w' => e = .returned (.int .i64 (compN a b)) ∧ Below w.heap.size w w' := by
  cases hg : eqC a.gr b.gr
  · exact rcomp_unlike a b w hg
  · by_cases h1 : b.st < a.st
    · exact rcomp_far a b w ha hb hg h1
    · by_cases h2 : a.st < b.st
      · exact rcomp_near a b w ha hb hg h2
      · exact rcomp_way a b w ha hb hg h1 h2
set_option maxHeartbeats 4000000 in
theorem rless7_any (a b : Rs) (w : World) (ha : a.ok) (hb : b.ok) :
    Calls Try.prog 23 #[.agg (rsA a), .agg (rsA b)] w fun e w' => e = .returned (.bool (lessB a b)) ∧ Below w.heap.size w w' := by
  have HB := Lib.hid (Below.refl w.heap.size w)
  have OA := Lib.hid ha
  have OB := Lib.hid hb
  clear ha hb
  obtain ⟨n, HN⟩ : ∃ n, Hid (compN a b = n) := ⟨_, Lib.hid rfl⟩
  by_cases h1 : n = 1
  · have HX : Hid (lessB a b = true) := by unfold lessB; rw [Hid, HN.out]; simp [h1]
    have d1 : (n == 1) = true := by simp [h1]
    clear h1 
    go_enter Try.func23, Try.ntmps23
    go_wp2_with (first | (refine big_whole rfl 29 _ rfl gK2 rfl K2.out Try.underlying29 rfl (by kernel_rfl) ?_) | (refine big_whole rfl 29 _ rfl gK1 rfl K1.out Try.underlying29 rfl (by kernel_rfl) ?_) | (refine big_box rfl 29 _ rfl (rsA b) rfl (by kernel_rfl) ?_; intro gK2 wK2 hlK2 nK2 hbK2; have K2 := Lib.hid nK2; have LK2 := Lib.hid (Nat.le_trans (HB.out).size hlK2); have NK1K2 := Lib.hid (show gK1 ≠ gK2 by have := (K1.out).inside; omega); replace K1 := Lib.hid ((K1.out).keptB hbK2); replace HB := Lib.hid (bstep HB.out hbK2); clear hlK2 nK2 hbK2) | (refine big_box rfl 29 _ rfl (rsA a) rfl (by kernel_rfl) ?_; intro gK1 wK1 hlK1 nK1 hbK1; have K1 := Lib.hid nK1; have LK1 := Lib.hid (Nat.le_trans (HB.out).size hlK1); replace HB := Lib.hid (bstep HB.out hbK1); clear hlK1 nK1 hbK1))
    refine (rcomp7_any a b _ OA.out OB.out).mono ?_
    rintro e w1 ⟨rfl, h1⟩
    rw [HN.out]
    replace K1 := Lib.hid ((K1.out).keptB h1)
    replace K2 := Lib.hid ((K2.out).keptB h1)
    replace HB := Lib.hid (bstep HB.out h1)
    clear h1
    go_wp2
    go_ret
    exact ⟨ret_bool7 HX.out.symm, HB.out⟩
  · by_cases h2 : n = 2
    · have HX : Hid (lessB a b = true) := by unfold lessB; rw [Hid, HN.out]; simp [h2]
      have d1 : (n == 1) = false := by simp [h1]
      have d2 : (n == 2) = true := by simp [h2]
      clear h1 h2
      go_enter Try.func23, Try.ntmps23
      go_wp2_with (first | (refine big_whole rfl 29 _ rfl gK2 rfl K2.out Try.underlying29 rfl (by kernel_rfl) ?_) | (refine big_whole rfl 29 _ rfl gK1 rfl K1.out Try.underlying29 rfl (by kernel_rfl) ?_) | (refine big_box rfl 29 _ rfl (rsA b) rfl (by kernel_rfl) ?_; intro gK2 wK2 hlK2 nK2 hbK2; have K2 := Lib.hid nK2; have LK2 := Lib.hid (Nat.le_trans (HB.out).size hlK2); have NK1K2 := Lib.hid (show gK1 ≠ gK2 by have := (K1.out).inside; omega); replace K1 := Lib.hid ((K1.out).keptB hbK2); replace HB := Lib.hid (bstep HB.out hbK2); clear hlK2 nK2 hbK2) | (refine big_box rfl 29 _ rfl (rsA a) rfl (by kernel_rfl) ?_; intro gK1 wK1 hlK1 nK1 hbK1; have K1 := Lib.hid nK1; have LK1 := Lib.hid (Nat.le_trans (HB.out).size hlK1); replace HB := Lib.hid (bstep HB.out hbK1); clear hlK1 nK1 hbK1))
      refine (rcomp7_any a b _ OA.out OB.out).mono ?_
      rintro e w1 ⟨rfl, h1⟩
      rw [HN.out]
      replace K1 := Lib.hid ((K1.out).keptB h1)
      replace K2 := Lib.hid ((K2.out).keptB h1)
      replace HB := Lib.hid (bstep HB.out h1)
      clear h1
      go_wp2
      go_ret
      exact ⟨ret_bool7 HX.out.symm, HB.out⟩
    · have HX : Hid (lessB a b = false) := by unfold lessB; rw [Hid, HN.out]; simp [h1, h2]
      have d1 : (n == 1) = false := by simp [h1]
      have d2 : (n == 2) = false := by simp [h2]
      clear h1 h2
      go_enter Try.func23, Try.ntmps23
      go_wp2_with (first | (refine big_whole rfl 29 _ rfl gK2 rfl K2.out Try.underlying29 rfl (by kernel_rfl) ?_) | (refine big_whole rfl 29 _ rfl gK1 rfl K1.out Try.underlying29 rfl (by kernel_rfl) ?_) | (refine big_box rfl 29 _ rfl (rsA b) rfl (by kernel_rfl) ?_; intro gK2 wK2 hlK2 nK2 hbK2; have K2 := Lib.hid nK2; have LK2 := Lib.hid (Nat.le_trans (HB.out).size hlK2); have NK1K2 := Lib.hid (show gK1 ≠ gK2 by have := (K1.out).inside; omega); replace K1 := Lib.hid ((K1.out).keptB hbK2); replace HB := Lib.hid (bstep HB.out hbK2); clear hlK2 nK2 hbK2) | (refine big_box rfl 29 _ rfl (rsA a) rfl (by kernel_rfl) ?_; intro gK1 wK1 hlK1 nK1 hbK1; have K1 := Lib.hid nK1; have LK1 := Lib.hid (Nat.le_trans (HB.out).size hlK1); replace HB := Lib.hid (bstep HB.out hbK1); clear hlK1 nK1 hbK1))
      refine (rcomp7_any a b _ OA.out OB.out).mono ?_
      rintro e w1 ⟨rfl, h1⟩
      rw [HN.out]
      replace K1 := Lib.hid ((K1.out).keptB h1)
      replace K2 := Lib.hid ((K2.out).keptB h1)
      replace HB := Lib.hid (bstep HB.out h1)
      clear h1
      go_wp2
      go_ret
      exact ⟨ret_bool7 HX.out.symm, HB.out⟩

end Go.Proofs.Ytpdnfeooijmgoaa
