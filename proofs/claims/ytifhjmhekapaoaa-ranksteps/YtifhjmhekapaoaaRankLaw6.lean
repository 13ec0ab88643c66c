/- The walk over RankSteps. -/
import Derived.Test.YtifhjmhekapaoaaRankAlive
namespace Go.Proofs.Ytifhjmhekapaoaa
set_option maxRecDepth 100000
open Go.RowKit
set_option linter.unusedVariables false

/-- a set of another way -/
def stepR (a : Rs) (n : Int) (p : Pt) : Rs := ⟨a.p1, a.p2, a.q1, a.q2, a.q3, a.gr, n, p, a.rc⟩
set_option maxHeartbeats 4000000 in
theorem steps7_0 (a : Rs) (n : Int) (p : Pt) (w : World) (ha : a.ok) (h0 : (a.st < 0)) :
    Calls Try.prog 8 #[.agg (rsA a), .int .i64 n, .agg #[.int .u8 p.c.b0, .int .u8 p.c.b1, .int .u8 p.c.b2, .int .u8 p.c.b3, .int .u8 p.c.b4, .int .u8 p.c.b5, .int .u8 p.c.b6, .int .u8 p.c.b7, .int .i64 p.n]] w fun e w' => e = .returned (.bool true) ∧ Below w.heap.size w w' := by
  have HB := Lib.hid (Below.refl w.heap.size w)
  have d0 : decide (a.st < 0) = true := by simp; omega
  have b1 := ha.lo
  have b2 := ha.hi
  clear ha
  clear h0
  go_enter Try.func8, Try.ntmps8
  go_wp2_with (first | (refine big_box rfl 27 _ rfl (#[.int .u8 p.c.b0, .int .u8 p.c.b1, .int .u8 p.c.b2, .int .u8 p.c.b3, .int .u8 p.c.b4, .int .u8 p.c.b5, .int .u8 p.c.b6, .int .u8 p.c.b7, .int .i64 p.n]) rfl (by kernel_rfl) ?_; intro gK2 wK2 hlK2 nK2 hbK2; have K2 := Lib.hid nK2; have LK2 := Lib.hid (Nat.le_trans (HB.out).size hlK2); have NK1K2 := Lib.hid (show gK1 ≠ gK2 by have := (K1.out).inside; omega); replace K1 := Lib.hid ((K1.out).keptB hbK2); replace HB := Lib.hid (bstep HB.out hbK2); clear hlK2 nK2 hbK2; have K1x13 := (K1.out).reads (i := 13) (x := .int .i64 a.st) rfl) | (refine big_box rfl 29 _ rfl (rsA a) rfl (by kernel_rfl) ?_; intro gK1 wK1 hlK1 nK1 hbK1; have K1 := Lib.hid nK1; have LK1 := Lib.hid (Nat.le_trans (HB.out).size hlK1); replace HB := Lib.hid (bstep HB.out hbK1); clear hlK1 nK1 hbK1))
  clear K1x13
  refine (alive7_any _).mono ?_
  rintro e wz ⟨rfl, hz⟩
  replace HB := Lib.hid (bstep HB.out hz)
  clear hz
  go_wp2
  go_ret
  exact ⟨rfl, HB.out⟩
set_option maxHeartbeats 4000000 in
theorem steps7_1 (a : Rs) (n : Int) (p : Pt) (w : World) (ha : a.ok) (h0 : ¬ (a.st < 0)) (h1 : (1099511627776 < a.st)) :
    Calls Try.prog 8 #[.agg (rsA a), .int .i64 n, .agg #[.int .u8 p.c.b0, .int .u8 p.c.b1, .int .u8 p.c.b2, .int .u8 p.c.b3, .int .u8 p.c.b4, .int .u8 p.c.b5, .int .u8 p.c.b6, .int .u8 p.c.b7, .int .i64 p.n]] w fun e w' => e = .returned (.bool true) ∧ Below w.heap.size w w' := by
  have HB := Lib.hid (Below.refl w.heap.size w)
  have d0 : decide (a.st < 0) = false := by simp; omega
  have d1 : decide (1099511627776 < a.st) = true := by simp; omega
  have b1 := ha.lo
  have b2 := ha.hi
  clear ha
  go_enter Try.func8, Try.ntmps8
  go_wp2_with (first | (refine big_box rfl 27 _ rfl (#[.int .u8 p.c.b0, .int .u8 p.c.b1, .int .u8 p.c.b2, .int .u8 p.c.b3, .int .u8 p.c.b4, .int .u8 p.c.b5, .int .u8 p.c.b6, .int .u8 p.c.b7, .int .i64 p.n]) rfl (by kernel_rfl) ?_; intro gK2 wK2 hlK2 nK2 hbK2; have K2 := Lib.hid nK2; have LK2 := Lib.hid (Nat.le_trans (HB.out).size hlK2); have NK1K2 := Lib.hid (show gK1 ≠ gK2 by have := (K1.out).inside; omega); replace K1 := Lib.hid ((K1.out).keptB hbK2); replace HB := Lib.hid (bstep HB.out hbK2); clear hlK2 nK2 hbK2; have K1x13 := (K1.out).reads (i := 13) (x := .int .i64 a.st) rfl) | (refine big_box rfl 29 _ rfl (rsA a) rfl (by kernel_rfl) ?_; intro gK1 wK1 hlK1 nK1 hbK1; have K1 := Lib.hid nK1; have LK1 := Lib.hid (Nat.le_trans (HB.out).size hlK1); replace HB := Lib.hid (bstep HB.out hbK1); clear hlK1 nK1 hbK1))
  clear K1x13
  refine (alive7_any _).mono ?_
  rintro e wz ⟨rfl, hz⟩
  replace HB := Lib.hid (bstep HB.out hz)
  clear hz
  go_wp2
  go_ret
  exact ⟨rfl, HB.out⟩
set_option maxHeartbeats 4000000 in
theorem steps7_2 (a : Rs) (n : Int) (p : Pt) (w : World) (ha : a.ok) (h0 : ¬ (a.st < 0)) (h1 : ¬ (1099511627776 < a.st)) (h2 : (n < 0)) :
    Calls Try.prog 8 #[.agg (rsA a), .int .i64 n, .agg #[.int .u8 p.c.b0, .int .u8 p.c.b1, .int .u8 p.c.b2, .int .u8 p.c.b3, .int .u8 p.c.b4, .int .u8 p.c.b5, .int .u8 p.c.b6, .int .u8 p.c.b7, .int .i64 p.n]] w fun e w' => e = .returned (.bool true) ∧ Below w.heap.size w w' := by
  have HB := Lib.hid (Below.refl w.heap.size w)
  have d0 : decide (a.st < 0) = false := by simp; omega
  have d1 : decide (1099511627776 < a.st) = false := by simp; omega
  have d2 : decide (n < 0) = true := by simp; omega
  have b1 := ha.lo
  have b2 := ha.hi
  clear ha
  clear h2
  go_enter Try.func8, Try.ntmps8
  go_wp2_with (first | (refine big_box rfl 27 _ rfl (#[.int .u8 p.c.b0, .int .u8 p.c.b1, .int .u8 p.c.b2, .int .u8 p.c.b3, .int .u8 p.c.b4, .int .u8 p.c.b5, .int .u8 p.c.b6, .int .u8 p.c.b7, .int .i64 p.n]) rfl (by kernel_rfl) ?_; intro gK2 wK2 hlK2 nK2 hbK2; have K2 := Lib.hid nK2; have LK2 := Lib.hid (Nat.le_trans (HB.out).size hlK2); have NK1K2 := Lib.hid (show gK1 ≠ gK2 by have := (K1.out).inside; omega); replace K1 := Lib.hid ((K1.out).keptB hbK2); replace HB := Lib.hid (bstep HB.out hbK2); clear hlK2 nK2 hbK2; have K1x13 := (K1.out).reads (i := 13) (x := .int .i64 a.st) rfl) | (refine big_box rfl 29 _ rfl (rsA a) rfl (by kernel_rfl) ?_; intro gK1 wK1 hlK1 nK1 hbK1; have K1 := Lib.hid nK1; have LK1 := Lib.hid (Nat.le_trans (HB.out).size hlK1); replace HB := Lib.hid (bstep HB.out hbK1); clear hlK1 nK1 hbK1))
  clear K1x13
  refine (alive7_any _).mono ?_
  rintro e wz ⟨rfl, hz⟩
  replace HB := Lib.hid (bstep HB.out hz)
  clear hz
  go_wp2
  go_ret
  exact ⟨rfl, HB.out⟩
set_option maxHeartbeats 4000000 in
theorem steps7_3 (a : Rs) (n : Int) (p : Pt) (w : World) (ha : a.ok) (h0 : ¬ (a.st < 0)) (h1 : ¬ (1099511627776 < a.st)) (h2 : ¬ (n < 0)) (h3 : (1099511627776 < n)) :
    Calls Try.prog 8 #[.agg (rsA a), .int .i64 n, .agg #[.int .u8 p.c.b0, .int .u8 p.c.b1, .int .u8 p.c.b2, .int .u8 p.c.b3, .int .u8 p.c.b4, .int .u8 p.c.b5, .int .u8 p.c.b6, .int .u8 p.c.b7, .int .i64 p.n]] w fun e w' => e = .returned (.bool true) ∧ Below w.heap.size w w' := by
  have HB := Lib.hid (Below.refl w.heap.size w)
  have d0 : decide (a.st < 0) = false := by simp; omega
  have d1 : decide (1099511627776 < a.st) = false := by simp; omega
  have d2 : decide (n < 0) = false := by simp; omega
  have d3 : decide (1099511627776 < n) = true := by simp; omega
  have b1 := ha.lo
  have b2 := ha.hi
  clear ha
  clear h2 h3
  go_enter Try.func8, Try.ntmps8
  go_wp2_with (first | (refine big_box rfl 27 _ rfl (#[.int .u8 p.c.b0, .int .u8 p.c.b1, .int .u8 p.c.b2, .int .u8 p.c.b3, .int .u8 p.c.b4, .int .u8 p.c.b5, .int .u8 p.c.b6, .int .u8 p.c.b7, .int .i64 p.n]) rfl (by kernel_rfl) ?_; intro gK2 wK2 hlK2 nK2 hbK2; have K2 := Lib.hid nK2; have LK2 := Lib.hid (Nat.le_trans (HB.out).size hlK2); have NK1K2 := Lib.hid (show gK1 ≠ gK2 by have := (K1.out).inside; omega); replace K1 := Lib.hid ((K1.out).keptB hbK2); replace HB := Lib.hid (bstep HB.out hbK2); clear hlK2 nK2 hbK2; have K1x13 := (K1.out).reads (i := 13) (x := .int .i64 a.st) rfl) | (refine big_box rfl 29 _ rfl (rsA a) rfl (by kernel_rfl) ?_; intro gK1 wK1 hlK1 nK1 hbK1; have K1 := Lib.hid nK1; have LK1 := Lib.hid (Nat.le_trans (HB.out).size hlK1); replace HB := Lib.hid (bstep HB.out hbK1); clear hlK1 nK1 hbK1))
  clear K1x13
  refine (alive7_any _).mono ?_
  rintro e wz ⟨rfl, hz⟩
  replace HB := Lib.hid (bstep HB.out hz)
  clear hz
  go_wp2
  go_ret
  exact ⟨rfl, HB.out⟩
set_option maxHeartbeats 4000000 in
theorem steps7_4 (a : Rs) (n : Int) (p : Pt) (w : World) (ha : a.ok) (h0 : ¬ (a.st < 0)) (h1 : ¬ (1099511627776 < a.st)) (h2 : ¬ (n < 0)) (h3 : ¬ (1099511627776 < n)) (h4 : (n ≤ a.st + 1)) :
    Calls Try.prog 8 #[.agg (rsA a), .int .i64 n, .agg #[.int .u8 p.c.b0, .int .u8 p.c.b1, .int .u8 p.c.b2, .int .u8 p.c.b3, .int .u8 p.c.b4, .int .u8 p.c.b5, .int .u8 p.c.b6, .int .u8 p.c.b7, .int .i64 p.n]] w fun e w' => e = .returned (.bool true) ∧ Below w.heap.size w w' := by
  have HB := Lib.hid (Below.refl w.heap.size w)
  have d0 : decide (a.st < 0) = false := by simp; omega
  have d1 : decide (1099511627776 < a.st) = false := by simp; omega
  have d2 : decide (n < 0) = false := by simp; omega
  have d3 : decide (1099511627776 < n) = false := by simp; omega
  have d4 : decide (n ≤ a.st + 1) = true := by simp; omega
  have b1 := ha.lo
  have b2 := ha.hi
  clear ha
  clear h2 h3 h4
  go_enter Try.func8, Try.ntmps8
  go_wp2_with (first | (refine big_box rfl 27 _ rfl (#[.int .u8 p.c.b0, .int .u8 p.c.b1, .int .u8 p.c.b2, .int .u8 p.c.b3, .int .u8 p.c.b4, .int .u8 p.c.b5, .int .u8 p.c.b6, .int .u8 p.c.b7, .int .i64 p.n]) rfl (by kernel_rfl) ?_; intro gK2 wK2 hlK2 nK2 hbK2; have K2 := Lib.hid nK2; have LK2 := Lib.hid (Nat.le_trans (HB.out).size hlK2); have NK1K2 := Lib.hid (show gK1 ≠ gK2 by have := (K1.out).inside; omega); replace K1 := Lib.hid ((K1.out).keptB hbK2); replace HB := Lib.hid (bstep HB.out hbK2); clear hlK2 nK2 hbK2; have K1x13 := (K1.out).reads (i := 13) (x := .int .i64 a.st) rfl) | (refine big_box rfl 29 _ rfl (rsA a) rfl (by kernel_rfl) ?_; intro gK1 wK1 hlK1 nK1 hbK1; have K1 := Lib.hid nK1; have LK1 := Lib.hid (Nat.le_trans (HB.out).size hlK1); replace HB := Lib.hid (bstep HB.out hbK1); clear hlK1 nK1 hbK1))
  clear K1x13
  refine (alive7_any _).mono ?_
  rintro e wz ⟨rfl, hz⟩
  replace HB := Lib.hid (bstep HB.out hz)
  clear hz
  go_wp2
  go_ret
  exact ⟨rfl, HB.out⟩
set_option maxHeartbeats 4000000 in
theorem steps7_main (a : Rs) (n : Int) (p : Pt) (w : World) (ha : a.ok) (hp : p.c.ok) (h0 : ¬ (a.st < 0)) (h1 : ¬ (1099511627776 < a.st)) (h2 : ¬ (n < 0)) (h3 : ¬ (1099511627776 < n)) (h4 : ¬ (n ≤ a.st + 1)) :
    Calls Try.prog 8 #[.agg (rsA a), .int .i64 n, .agg #[.int .u8 p.c.b0, .int .u8 p.c.b1, .int .u8 p.c.b2, .int .u8 p.c.b3, .int .u8 p.c.b4, .int .u8 p.c.b5, .int .u8 p.c.b6, .int .u8 p.c.b7, .int .i64 p.n]] w fun e w' => e = .returned (.bool true) ∧ Below w.heap.size w w' := by
  have HB := Lib.hid (Below.refl w.heap.size w)
  have d0 : decide (a.st < 0) = false := by simp; omega
  have d1 : decide (1099511627776 < a.st) = false := by simp; omega
  have d2 : decide (n < 0) = false := by simp; omega
  have d3 : decide (1099511627776 < n) = false := by simp; omega
  have d4 : decide (n ≤ a.st + 1) = false := by simp; omega
  have OA := Lib.hid ha
  have OB : Hid ((stepR a n p).ok) := ⟨ha.g, hp, ha.r, by show -9223372036854775808 ≤ n; omega, by show n ≤ 9223372036854775807; omega⟩
  have HC := Lib.hid (compN_steps (a := a) (b := stepR a n p) rfl (show a.st + 1 < n by omega))
  clear ha hp h2 h3 h4
  go_enter Try.func8, Try.ntmps8
  go_wp2_with (first | (refine big_fill rfl 29 _ _ rfl gK3 (rsA a) rfl rfl K3.out (by kernel_rfl) (by kernel_rfl) (by kernel_rfl) ?_; intro vK30 nK3 htK3; replace K3 := Lib.hid nK3; replace K1 := Lib.hid ((K1.out).touch htK3 (by have := NK1K3.out; omega)); replace K2 := Lib.hid ((K2.out).touch htK3 (by have := NK2K3.out; omega)); replace HB := Lib.hid (btouch HB.out htK3 LK3.out); clear nK3 htK3) | (refine big_alloc rfl 29 rfl (rsA zeroR) (by kernel_rfl) ?_; intro gK3 wK3 hlK3 nK3 hbK3; have K3 := Lib.hid nK3; have LK3 := Lib.hid (Nat.le_trans (HB.out).size hlK3); have NK1K3 := Lib.hid (show gK1 ≠ gK3 by have := (K1.out).inside; omega); replace K1 := Lib.hid ((K1.out).keptB hbK3); have NK2K3 := Lib.hid (show gK2 ≠ gK3 by have := (K2.out).inside; omega); replace K2 := Lib.hid ((K2.out).keptB hbK3); replace HB := Lib.hid (bstep HB.out hbK3); clear hlK3 nK3 hbK3) | (refine big_whole rfl 29 _ rfl gK1 rfl K1.out Try.underlying29 rfl (by kernel_rfl) ?_) | (refine big_box rfl 27 _ rfl (#[.int .u8 p.c.b0, .int .u8 p.c.b1, .int .u8 p.c.b2, .int .u8 p.c.b3, .int .u8 p.c.b4, .int .u8 p.c.b5, .int .u8 p.c.b6, .int .u8 p.c.b7, .int .i64 p.n]) rfl (by kernel_rfl) ?_; intro gK2 wK2 hlK2 nK2 hbK2; have K2 := Lib.hid nK2; have LK2 := Lib.hid (Nat.le_trans (HB.out).size hlK2); have NK1K2 := Lib.hid (show gK1 ≠ gK2 by have := (K1.out).inside; omega); replace K1 := Lib.hid ((K1.out).keptB hbK2); replace HB := Lib.hid (bstep HB.out hbK2); clear hlK2 nK2 hbK2; have K1x13 := (K1.out).reads (i := 13) (x := .int .i64 a.st) rfl) | (refine big_box rfl 29 _ rfl (rsA a) rfl (by kernel_rfl) ?_; intro gK1 wK1 hlK1 nK1 hbK1; have K1 := Lib.hid nK1; have LK1 := Lib.hid (Nat.le_trans (HB.out).size hlK1); replace HB := Lib.hid (bstep HB.out hbK1); clear hlK1 nK1 hbK1))
  clear K1x13
  replace K1 := Lib.hid ((K1.out).drew)
  replace K3 := Lib.hid ((K3.out).drew)
  replace HB := Lib.hid (bdrew HB.out)
  refine wp_region_held_drew (S := fun v => Holds v gK2 27 #[.int .u8 p.c.b0, .int .u8 p.c.b1, .int .u8 p.c.b2, .int .u8 p.c.b3, .int .u8 p.c.b4, .int .u8 p.c.b5, .int .u8 p.c.b6, .int .u8 p.c.b7, .int .i64 p.n]) (by kernel_rfl) ?_ (fun hHeld => ?_)
  · exact (K2.out).drew
  clear K2
  refine wpAnyH_take (i := 0) (v := .int .i64 n) (at_list rfl) (by kernel_rfl) (by kernel_rfl) (by kernel_rfl) (fun _ _ _ h => h) (Or.inl ⟨by rfl, ?_⟩) hHeld ?_
  · intro v hSv
    clear hHeld
    go_simp
  try simp only [Act.put, List.setIfInBounds_toArray, List.set_cons_zero, List.set_cons_succ]
  refine wpAnyH_take (i := 1) (v := .agg #[.int .u8 p.c.b0, .int .u8 p.c.b1, .int .u8 p.c.b2, .int .u8 p.c.b3, .int .u8 p.c.b4, .int .u8 p.c.b5, .int .u8 p.c.b6, .int .u8 p.c.b7, .int .i64 p.n]) (at_list rfl) (by kernel_rfl) (by kernel_rfl) (by kernel_rfl) (fun _ _ _ h => h) (yields_whole (by rfl) 27 _ rfl gK2 rfl (fun v hv => hv) Try.underlying27 rfl (by kernel_rfl)) hHeld ?_
  try simp only [Act.put, List.setIfInBounds_toArray, List.set_cons_zero, List.set_cons_succ]
  refine wpAnyH_take (i := 2) (v := .pointer (some ⟨gK3, 13, none⟩)) (at_list rfl) (by kernel_rfl) (by kernel_rfl) (by kernel_rfl) (fun _ _ _ h => h) (Or.inl ⟨by rfl, ?_⟩) hHeld ?_
  · intro v hSv
    clear hHeld
    go_simp
  try simp only [Act.put, List.setIfInBounds_toArray, List.set_cons_zero, List.set_cons_succ]
  refine wpAnyH_ready (rs := [3]) (by kernel_rfl) (by simp) ?_
  refine AllReadyH.cons (at_list rfl) (fun K hK => ?_) AllReadyH.nil
  refine step_set (by rfl) 3 _ _ rfl gK3 13 (.int .i64 n) rfl rfl K3.out (by kernel_rfl) rfl rfl (of_decide_eq_true (by kernel_rfl)) (rsA (stepR a n a.sn)) (by kernel_rfl) ?_
  intro v31 nK3 htK3
  replace K3 := Lib.hid nK3
  replace K1 := Lib.hid ((K1.out).touch htK3 (by have := NK1K3.out; omega))
  replace HB := Lib.hid (btouch HB.out htK3 LK3.out)
  refine hK.out _ _ ?_ (fun hHeld2 => ?_)
  · exact Holds.touch hHeld htK3 (by have := NK2K3.out; omega)
  clear hK K hHeld
  have hHeld := hHeld2
  clear hHeld2
  try simp only [Act.put]
  clear nK3 htK3
  refine wpAnyH_take (i := 4) (v := .pointer (some ⟨gK3, 14, none⟩)) (at_list rfl) (by kernel_rfl) (by kernel_rfl) (by kernel_rfl) (fun _ _ _ h => h) (Or.inl ⟨by rfl, ?_⟩) hHeld ?_
  · intro v hSv
    clear hHeld
    go_simp
  try simp only [Act.put, List.setIfInBounds_toArray, List.set_cons_zero, List.set_cons_succ]
  refine wpAnyH_ready (rs := [5]) (by kernel_rfl) (by simp) ?_
  refine AllReadyH.cons (at_list rfl) (fun K hK => ?_) AllReadyH.nil
  refine step_store (by rfl) 27 _ _ rfl gK3 14 [.int .u8 p.c.b0, .int .u8 p.c.b1, .int .u8 p.c.b2, .int .u8 p.c.b3, .int .u8 p.c.b4, .int .u8 p.c.b5, .int .u8 p.c.b6, .int .u8 p.c.b7, .int .i64 p.n] rfl rfl K3.out (by kernel_rfl) (by kernel_rfl) (of_decide_eq_true (by kernel_rfl)) (rsA (stepR a n p)) (by kernel_rfl) ?_
  intro v32 nK3 htK3
  replace K3 := Lib.hid nK3
  replace K1 := Lib.hid ((K1.out).touch htK3 (by have := NK1K3.out; omega))
  replace HB := Lib.hid (btouch HB.out htK3 LK3.out)
  refine hK.out _ _ ?_ (fun hHeld2 => ?_)
  · exact Holds.touch hHeld htK3 (by have := NK2K3.out; omega)
  clear hK K hHeld
  have hHeld := hHeld2
  clear hHeld2
  try simp only [Act.put]
  clear nK3 htK3
  refine wpAnyH_done (by kernel_rfl) ?_ _
  have K2 := Lib.hid hHeld
  clear hHeld
  go_wp2_with fail
  refine (alive7_any _).mono ?_
  rintro e wz1 ⟨rfl, hz1⟩
  replace K1 := Lib.hid ((K1.out).keptB hz1)
  replace K3 := Lib.hid ((K3.out).keptB hz1)
  replace HB := Lib.hid (bstep HB.out hz1)
  clear hz1
  go_wp2_with (first | (refine big_whole rfl 29 _ rfl gK3 rfl K3.out Try.underlying29 rfl (by kernel_rfl) ?_) | (refine big_whole rfl 29 _ rfl gK1 rfl K1.out Try.underlying29 rfl (by kernel_rfl) ?_))
  refine (comp7_any a (stepR a n p) _ OA.out OB.out).mono ?_
  rintro e wz2 ⟨rfl, hz2⟩
  rw [(HC.out).1]
  replace K1 := Lib.hid ((K1.out).keptB hz2)
  replace K3 := Lib.hid ((K3.out).keptB hz2)
  replace HB := Lib.hid (bstep HB.out hz2)
  clear hz2
  go_wp2_with (first | (refine big_whole rfl 29 _ rfl gK3 rfl K3.out Try.underlying29 rfl (by kernel_rfl) ?_) | (refine big_whole rfl 29 _ rfl gK1 rfl K1.out Try.underlying29 rfl (by kernel_rfl) ?_))
  refine (comp7_any (stepR a n p) a _ OB.out OA.out).mono ?_
  rintro e wz3 ⟨rfl, hz3⟩
  rw [(HC.out).2]
  replace K1 := Lib.hid ((K1.out).keptB hz3)
  replace K3 := Lib.hid ((K3.out).keptB hz3)
  replace HB := Lib.hid (bstep HB.out hz3)
  clear hz3
  go_wp2
  go_ret
  exact ⟨rfl, HB.out⟩
theorem steps7_walk (a : Rs) (n : Int) (p : Pt) (w : World) (ha : a.ok) (hp : p.c.ok) :
    Calls Try.prog 8 #[.agg (rsA a), .int .i64 n, .agg #[.int .u8 p.c.b0, .int .u8 p.c.b1, .int .u8 p.c.b2, .int .u8 p.c.b3, .int .u8 p.c.b4, .int .u8 p.c.b5, .int .u8 p.c.b6, .int .u8 p.c.b7, .int .i64 p.n]] w fun e w' => e = .returned (.bool true) ∧ Below w.heap.size w w' := by
  by_cases h0 : a.st < 0
  · exact steps7_0 a n p w ha h0
  by_cases h1 : 1099511627776 < a.st
  · exact steps7_1 a n p w ha h0 h1
  by_cases h2 : n < 0
  · exact steps7_2 a n p w ha h0 h1 h2
  by_cases h3 : 1099511627776 < n
  · exact steps7_3 a n p w ha h0 h1 h2 h3
  by_cases h4 : n ≤ a.st + 1
  · exact steps7_4 a n p w ha h0 h1 h2 h3 h4
  exact steps7_main a n p w ha hp h0 h1 h2 h3 h4

end Go.Proofs.Ytifhjmhekapaoaa
