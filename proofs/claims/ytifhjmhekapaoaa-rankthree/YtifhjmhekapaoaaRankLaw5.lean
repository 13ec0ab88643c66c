/- The walk over RankThree. -/
import Derived.Test.YtifhjmhekapaoaaRankAlive
namespace Go.Proofs.Ytifhjmhekapaoaa
set_option maxRecDepth 100000
open Go.RowKit
set_option linter.unusedVariables false

set_option maxHeartbeats 4000000 in
theorem three7_one (a b c : Rs) (w : World) (h1 : grandN a b = 1) :
    Calls Try.prog 7 #[.agg (rsA a), .agg (rsA b), .agg (rsA c)] w fun e w' => e = .returned (.bool true) ∧ Below w.heap.size w w' := by
  have HB := Lib.hid (Below.refl w.heap.size w)
  have H1 := Lib.hid h1
  clear h1
  go_enter Try.func7, Try.ntmps7
  go_wp2_with (first | (refine big_whole rfl 29 _ rfl gK2 rfl K2.out Try.underlying29 rfl (by kernel_rfl) ?_) | (refine big_whole rfl 29 _ rfl gK1 rfl K1.out Try.underlying29 rfl (by kernel_rfl) ?_) | (refine big_box rfl 29 _ rfl (rsA c) rfl (by kernel_rfl) ?_; intro gK3 wK3 hlK3 nK3 hbK3; replace K1 := Lib.hid ((K1.out).keptB hbK3); replace K2 := Lib.hid ((K2.out).keptB hbK3); replace HB := Lib.hid (bstep HB.out hbK3); have K3 := Lib.hid nK3; clear hlK3 nK3 hbK3) | (refine big_box rfl 29 _ rfl (rsA b) rfl (by kernel_rfl) ?_; intro gK2 wK2 hlK2 nK2 hbK2; replace K1 := Lib.hid ((K1.out).keptB hbK2); replace HB := Lib.hid (bstep HB.out hbK2); have K2 := Lib.hid nK2; clear hlK2 nK2 hbK2) | (refine big_box rfl 29 _ rfl (rsA a) rfl (by kernel_rfl) ?_; intro gK1 wK1 hlK1 nK1 hbK1; replace HB := Lib.hid (bstep HB.out hbK1); have K1 := Lib.hid nK1; clear hlK1 nK1 hbK1))
  refine (grand_any a b _).mono ?_
  rintro e c1 ⟨rfl, hc1⟩
  replace K1 := Lib.hid ((K1.out).keptB hc1)
  replace K2 := Lib.hid ((K2.out).keptB hc1)
  replace K3 := Lib.hid ((K3.out).keptB hc1)
  replace HB := Lib.hid (bstep HB.out hc1)
  clear hc1
  rw [H1.out]
  go_wp2_with fail
  refine (alive7_any _).mono ?_
  rintro e c2 ⟨rfl, hc2⟩
  replace K1 := Lib.hid ((K1.out).keptB hc2)
  replace K2 := Lib.hid ((K2.out).keptB hc2)
  replace K3 := Lib.hid ((K3.out).keptB hc2)
  replace HB := Lib.hid (bstep HB.out hc2)
  clear hc2
  go_wp2
  go_ret
  exact ⟨rfl, HB.out⟩
set_option maxHeartbeats 4000000 in
theorem three7_two (a b c : Rs) (n : Int) (w : World) (h1 : grandN a b = n) (hn : n ≤ 0) (h2 : grandN b c = 1) :
    Calls Try.prog 7 #[.agg (rsA a), .agg (rsA b), .agg (rsA c)] w fun e w' => e = .returned (.bool true) ∧ Below w.heap.size w w' := by
  have HB := Lib.hid (Below.refl w.heap.size w)
  have H1 := Lib.hid h1
  have H2 := Lib.hid h2
  have d : decide (0 < n) = false := by simp; omega
  clear h1 h2 hn
  go_enter Try.func7, Try.ntmps7
  go_wp2_with (first | (refine big_whole rfl 29 _ rfl gK2 rfl K2.out Try.underlying29 rfl (by kernel_rfl) ?_) | (refine big_whole rfl 29 _ rfl gK1 rfl K1.out Try.underlying29 rfl (by kernel_rfl) ?_) | (refine big_box rfl 29 _ rfl (rsA c) rfl (by kernel_rfl) ?_; intro gK3 wK3 hlK3 nK3 hbK3; replace K1 := Lib.hid ((K1.out).keptB hbK3); replace K2 := Lib.hid ((K2.out).keptB hbK3); replace HB := Lib.hid (bstep HB.out hbK3); have K3 := Lib.hid nK3; clear hlK3 nK3 hbK3) | (refine big_box rfl 29 _ rfl (rsA b) rfl (by kernel_rfl) ?_; intro gK2 wK2 hlK2 nK2 hbK2; replace K1 := Lib.hid ((K1.out).keptB hbK2); replace HB := Lib.hid (bstep HB.out hbK2); have K2 := Lib.hid nK2; clear hlK2 nK2 hbK2) | (refine big_box rfl 29 _ rfl (rsA a) rfl (by kernel_rfl) ?_; intro gK1 wK1 hlK1 nK1 hbK1; replace HB := Lib.hid (bstep HB.out hbK1); have K1 := Lib.hid nK1; clear hlK1 nK1 hbK1))
  refine (grand_any a b _).mono ?_
  rintro e c1 ⟨rfl, hc1⟩
  replace K1 := Lib.hid ((K1.out).keptB hc1)
  replace K2 := Lib.hid ((K2.out).keptB hc1)
  replace K3 := Lib.hid ((K3.out).keptB hc1)
  replace HB := Lib.hid (bstep HB.out hc1)
  clear hc1
  rw [H1.out]
  go_wp2_with (first | (refine big_whole rfl 29 _ rfl gK3 rfl K3.out Try.underlying29 rfl (by kernel_rfl) ?_) | (refine big_whole rfl 29 _ rfl gK2 rfl K2.out Try.underlying29 rfl (by kernel_rfl) ?_))
  refine (grand_any b c _).mono ?_
  rintro e c2 ⟨rfl, hc2⟩
  replace K1 := Lib.hid ((K1.out).keptB hc2)
  replace K2 := Lib.hid ((K2.out).keptB hc2)
  replace K3 := Lib.hid ((K3.out).keptB hc2)
  replace HB := Lib.hid (bstep HB.out hc2)
  clear hc2
  rw [H2.out]
  go_wp2_with fail
  refine (alive7_any _).mono ?_
  rintro e c3 ⟨rfl, hc3⟩
  replace K1 := Lib.hid ((K1.out).keptB hc3)
  replace K2 := Lib.hid ((K2.out).keptB hc3)
  replace K3 := Lib.hid ((K3.out).keptB hc3)
  replace HB := Lib.hid (bstep HB.out hc3)
  clear hc3
  go_wp2
  go_ret
  exact ⟨rfl, HB.out⟩
set_option maxHeartbeats 4000000 in
theorem three7_neg (a b c : Rs) (n m : Int) (w : World) (h1 : grandN a b = n) (hn : n ≤ 0) (h2 : grandN b c = m) (hm : m ≤ 0) (h3 : grandN a c = -1) (h4 : grandN c a = 1) :
    Calls Try.prog 7 #[.agg (rsA a), .agg (rsA b), .agg (rsA c)] w fun e w' => e = .returned (.bool true) ∧ Below w.heap.size w w' := by
  have HB := Lib.hid (Below.refl w.heap.size w)
  have H1 := Lib.hid h1
  have H2 := Lib.hid h2
  have H3 := Lib.hid h3
  have H4 := Lib.hid h4
  have d1 : decide (0 < n) = false := by simp; omega
  have d2 : decide (0 < m) = false := by simp; omega
  clear h1 h2 h3 h4 hn hm
  go_enter Try.func7, Try.ntmps7
  go_wp2_with (first | (refine big_whole rfl 29 _ rfl gK2 rfl K2.out Try.underlying29 rfl (by kernel_rfl) ?_) | (refine big_whole rfl 29 _ rfl gK1 rfl K1.out Try.underlying29 rfl (by kernel_rfl) ?_) | (refine big_box rfl 29 _ rfl (rsA c) rfl (by kernel_rfl) ?_; intro gK3 wK3 hlK3 nK3 hbK3; replace K1 := Lib.hid ((K1.out).keptB hbK3); replace K2 := Lib.hid ((K2.out).keptB hbK3); replace HB := Lib.hid (bstep HB.out hbK3); have K3 := Lib.hid nK3; clear hlK3 nK3 hbK3) | (refine big_box rfl 29 _ rfl (rsA b) rfl (by kernel_rfl) ?_; intro gK2 wK2 hlK2 nK2 hbK2; replace K1 := Lib.hid ((K1.out).keptB hbK2); replace HB := Lib.hid (bstep HB.out hbK2); have K2 := Lib.hid nK2; clear hlK2 nK2 hbK2) | (refine big_box rfl 29 _ rfl (rsA a) rfl (by kernel_rfl) ?_; intro gK1 wK1 hlK1 nK1 hbK1; replace HB := Lib.hid (bstep HB.out hbK1); have K1 := Lib.hid nK1; clear hlK1 nK1 hbK1))
  refine (grand_any a b _).mono ?_
  rintro e c1 ⟨rfl, hc1⟩
  replace K1 := Lib.hid ((K1.out).keptB hc1)
  replace K2 := Lib.hid ((K2.out).keptB hc1)
  replace K3 := Lib.hid ((K3.out).keptB hc1)
  replace HB := Lib.hid (bstep HB.out hc1)
  clear hc1
  rw [H1.out]
  go_wp2_with (first | (refine big_whole rfl 29 _ rfl gK3 rfl K3.out Try.underlying29 rfl (by kernel_rfl) ?_) | (refine big_whole rfl 29 _ rfl gK2 rfl K2.out Try.underlying29 rfl (by kernel_rfl) ?_))
  refine (grand_any b c _).mono ?_
  rintro e c2 ⟨rfl, hc2⟩
  replace K1 := Lib.hid ((K1.out).keptB hc2)
  replace K2 := Lib.hid ((K2.out).keptB hc2)
  replace K3 := Lib.hid ((K3.out).keptB hc2)
  replace HB := Lib.hid (bstep HB.out hc2)
  clear hc2
  rw [H2.out]
  go_wp2_with fail
  refine wp_region_held_drew (S := fun v => Below w.heap.size w v ∧ Holds v gK1 29 (rsA a) ∧ Holds v gK2 29 (rsA b) ∧ Holds v gK3 29 (rsA c) ∧ True) (by kernel_rfl) ?_ (fun hHeld => ?_)
  · exact ⟨bdrew HB.out, (K1.out).drew, (K2.out).drew, (K3.out).drew, trivial⟩
  clear HB K1 K2 K3
  refine wpAnyH_ready (rs := [0]) (by kernel_rfl) (by simp) ?_
  refine AllReadyH.cons (at_list rfl) (fun K hK => ?_) AllReadyH.nil
  go_simp
  refine (alive7_any _).mono ?_
  rintro e v3 ⟨rfl, hv3⟩
  go_wp2_with fail
  refine hK.out _ _ ?_ (fun hHeld2 => ?_)
  · exact ⟨bstep hHeld.1 hv3, hHeld.2.1.keptB hv3, hHeld.2.2.1.keptB hv3, hHeld.2.2.2.1.keptB hv3, trivial⟩
  clear hK K hHeld
  have hHeld := hHeld2
  clear hHeld2 hv3
  try simp only [Act.put, List.setIfInBounds_toArray, List.set_cons_zero, List.set_cons_succ]
  refine wpAnyH_take (i := 1) (v := .bool true) (at_list rfl) (by kernel_rfl) (by kernel_rfl) (by kernel_rfl) (fun _ _ _ h => h) (Or.inl ⟨by rfl, ?_⟩) hHeld ?_
  · intro v hSv
    clear hHeld
    go_simp
  try simp only [Act.put, List.setIfInBounds_toArray, List.set_cons_zero, List.set_cons_succ]
  refine wpAnyH_take (i := 2) (v := .agg (rsA a)) (at_list rfl) (by kernel_rfl) (by kernel_rfl) (by kernel_rfl) (fun _ _ _ h => h) (yields_whole (by rfl) 29 _ rfl gK1 rfl (fun v hv => hv.2.1) Try.underlying29 rfl (by kernel_rfl)) hHeld ?_
  try simp only [Act.put, List.setIfInBounds_toArray, List.set_cons_zero, List.set_cons_succ]
  refine wpAnyH_take (i := 3) (v := .agg (rsA c)) (at_list rfl) (by kernel_rfl) (by kernel_rfl) (by kernel_rfl) (fun _ _ _ h => h) (yields_whole (by rfl) 29 _ rfl gK3 rfl (fun v hv => hv.2.2.2.1) Try.underlying29 rfl (by kernel_rfl)) hHeld ?_
  try simp only [Act.put, List.setIfInBounds_toArray, List.set_cons_zero, List.set_cons_succ]
  refine wpAnyH_ready (rs := [4]) (by kernel_rfl) (by simp) ?_
  refine AllReadyH.cons (at_list rfl) (fun K hK => ?_) AllReadyH.nil
  go_simp
  refine (grand_any a c _).mono ?_
  rintro e v4 ⟨rfl, hv4⟩
  rw [H3.out]
  go_wp2_with fail
  refine hK.out _ _ ?_ (fun hHeld2 => ?_)
  · exact ⟨bstep hHeld.1 hv4, hHeld.2.1.keptB hv4, hHeld.2.2.1.keptB hv4, hHeld.2.2.2.1.keptB hv4, trivial⟩
  clear hK K hHeld
  have hHeld := hHeld2
  clear hHeld2 hv4
  try simp only [Act.put, List.setIfInBounds_toArray, List.set_cons_zero, List.set_cons_succ]
  refine wpAnyH_take (i := 5) (v := .bool true) (at_list rfl) (by kernel_rfl) (by kernel_rfl) (by kernel_rfl) (fun _ _ _ h => h) (Or.inl ⟨by rfl, ?_⟩) hHeld ?_
  · intro v hSv
    clear hHeld
    go_simp
  try simp only [Act.put, List.setIfInBounds_toArray, List.set_cons_zero, List.set_cons_succ]
  refine wpAnyH_take (i := 6) (v := .bool true) (at_list rfl) (by kernel_rfl) (by kernel_rfl) (by kernel_rfl) (fun _ _ _ h => h) (Or.inl ⟨by rfl, ?_⟩) hHeld ?_
  · intro v hSv
    clear hHeld
    go_simp
  try simp only [Act.put, List.setIfInBounds_toArray, List.set_cons_zero, List.set_cons_succ]
  refine wpAnyH_take (i := 7) (v := .bool true) (at_list rfl) (by kernel_rfl) (by kernel_rfl) (by kernel_rfl) (fun _ _ _ h => h) (Or.inl ⟨by rfl, ?_⟩) hHeld ?_
  · intro v hSv
    clear hHeld
    go_simp
  try simp only [Act.put, List.setIfInBounds_toArray, List.set_cons_zero, List.set_cons_succ]
  refine wpAnyH_take (i := 8) (v := .agg (rsA c)) (at_list rfl) (by kernel_rfl) (by kernel_rfl) (by kernel_rfl) (fun _ _ _ h => h) (yields_whole (by rfl) 29 _ rfl gK3 rfl (fun v hv => hv.2.2.2.1) Try.underlying29 rfl (by kernel_rfl)) hHeld ?_
  try simp only [Act.put, List.setIfInBounds_toArray, List.set_cons_zero, List.set_cons_succ]
  refine wpAnyH_take (i := 9) (v := .agg (rsA a)) (at_list rfl) (by kernel_rfl) (by kernel_rfl) (by kernel_rfl) (fun _ _ _ h => h) (yields_whole (by rfl) 29 _ rfl gK1 rfl (fun v hv => hv.2.1) Try.underlying29 rfl (by kernel_rfl)) hHeld ?_
  try simp only [Act.put, List.setIfInBounds_toArray, List.set_cons_zero, List.set_cons_succ]
  refine wpAnyH_take (i := 11) (v := .agg (rsA a)) (at_list rfl) (by kernel_rfl) (by kernel_rfl) (by kernel_rfl) (fun _ _ _ h => h) (yields_whole (by rfl) 29 _ rfl gK1 rfl (fun v hv => hv.2.1) Try.underlying29 rfl (by kernel_rfl)) hHeld ?_
  try simp only [Act.put, List.setIfInBounds_toArray, List.set_cons_zero, List.set_cons_succ]
  refine wpAnyH_take (i := 12) (v := .agg (rsA c)) (at_list rfl) (by kernel_rfl) (by kernel_rfl) (by kernel_rfl) (fun _ _ _ h => h) (yields_whole (by rfl) 29 _ rfl gK3 rfl (fun v hv => hv.2.2.2.1) Try.underlying29 rfl (by kernel_rfl)) hHeld ?_
  try simp only [Act.put, List.setIfInBounds_toArray, List.set_cons_zero, List.set_cons_succ]
  refine wpAnyH_ready (rs := [10]) (by kernel_rfl) (by simp) ?_
  refine AllReadyH.cons (at_list rfl) (fun K hK => ?_) AllReadyH.nil
  go_simp
  refine (grand_any c a _).mono ?_
  rintro e v5 ⟨rfl, hv5⟩
  rw [H4.out]
  go_wp2_with fail
  refine hK.out _ _ ?_ (fun hHeld2 => ?_)
  · exact ⟨bstep hHeld.1 hv5, hHeld.2.1.keptB hv5, hHeld.2.2.1.keptB hv5, hHeld.2.2.2.1.keptB hv5, trivial⟩
  clear hK K hHeld
  have hHeld := hHeld2
  clear hHeld2 hv5
  try simp only [Act.put, List.setIfInBounds_toArray, List.set_cons_zero, List.set_cons_succ]
  refine wpAnyH_ready (rs := [13]) (by kernel_rfl) (by simp) ?_
  refine AllReadyH.cons (at_list rfl) (fun K hK => ?_) AllReadyH.nil
  go_simp
  refine (grand_any a c _).mono ?_
  rintro e v6 ⟨rfl, hv6⟩
  rw [H3.out]
  go_wp2_with fail
  refine hK.out _ _ ?_ (fun hHeld2 => ?_)
  · exact ⟨bstep hHeld.1 hv6, hHeld.2.1.keptB hv6, hHeld.2.2.1.keptB hv6, hHeld.2.2.2.1.keptB hv6, trivial⟩
  clear hK K hHeld
  have hHeld := hHeld2
  clear hHeld2 hv6
  try simp only [Act.put, List.setIfInBounds_toArray, List.set_cons_zero, List.set_cons_succ]
  refine wpAnyH_take (i := 14) (v := .int .i64 1) (at_list rfl) (by kernel_rfl) (by kernel_rfl) (by kernel_rfl) (fun _ _ _ h => h) (Or.inl ⟨by rfl, ?_⟩) hHeld ?_
  · intro v hSv
    clear hHeld
    go_simp
    rfl
  try simp only [Act.put, List.setIfInBounds_toArray, List.set_cons_zero, List.set_cons_succ]
  refine wpAnyH_take (i := 15) (v := .bool true) (at_list rfl) (by kernel_rfl) (by kernel_rfl) (by kernel_rfl) (fun _ _ _ h => h) (Or.inl ⟨by rfl, ?_⟩) hHeld ?_
  · intro v hSv
    clear hHeld
    go_simp
  try simp only [Act.put, List.setIfInBounds_toArray, List.set_cons_zero, List.set_cons_succ]
  refine wpAnyH_take (i := 16) (v := .bool true) (at_list rfl) (by kernel_rfl) (by kernel_rfl) (by kernel_rfl) (fun _ _ _ h => h) (Or.inl ⟨by rfl, ?_⟩) hHeld ?_
  · intro v hSv
    clear hHeld
    go_simp
  try simp only [Act.put, List.setIfInBounds_toArray, List.set_cons_zero, List.set_cons_succ]
  refine wpAnyH_take (i := 17) (v := .bool true) (at_list rfl) (by kernel_rfl) (by kernel_rfl) (by kernel_rfl) (fun _ _ _ h => h) (Or.inl ⟨by rfl, ?_⟩) hHeld ?_
  · intro v hSv
    clear hHeld
    go_simp
  try simp only [Act.put, List.setIfInBounds_toArray, List.set_cons_zero, List.set_cons_succ]
  refine wpAnyH_take (i := 18) (v := .agg (rsA a)) (at_list rfl) (by kernel_rfl) (by kernel_rfl) (by kernel_rfl) (fun _ _ _ h => h) (yields_whole (by rfl) 29 _ rfl gK1 rfl (fun v hv => hv.2.1) Try.underlying29 rfl (by kernel_rfl)) hHeld ?_
  try simp only [Act.put, List.setIfInBounds_toArray, List.set_cons_zero, List.set_cons_succ]
  refine wpAnyH_take (i := 19) (v := .agg (rsA c)) (at_list rfl) (by kernel_rfl) (by kernel_rfl) (by kernel_rfl) (fun _ _ _ h => h) (yields_whole (by rfl) 29 _ rfl gK3 rfl (fun v hv => hv.2.2.2.1) Try.underlying29 rfl (by kernel_rfl)) hHeld ?_
  try simp only [Act.put, List.setIfInBounds_toArray, List.set_cons_zero, List.set_cons_succ]
  refine wpAnyH_ready (rs := [20]) (by kernel_rfl) (by simp) ?_
  refine AllReadyH.cons (at_list rfl) (fun K hK => ?_) AllReadyH.nil
  go_simp
  refine (grand_any a c _).mono ?_
  rintro e v7 ⟨rfl, hv7⟩
  rw [H3.out]
  go_wp2_with fail
  refine hK.out _ _ ?_ (fun hHeld2 => ?_)
  · exact ⟨bstep hHeld.1 hv7, hHeld.2.1.keptB hv7, hHeld.2.2.1.keptB hv7, hHeld.2.2.2.1.keptB hv7, trivial⟩
  clear hK K hHeld
  have hHeld := hHeld2
  clear hHeld2 hv7
  try simp only [Act.put, List.setIfInBounds_toArray, List.set_cons_zero, List.set_cons_succ]
  refine wpAnyH_take (i := 21) (v := .bool true) (at_list rfl) (by kernel_rfl) (by kernel_rfl) (by kernel_rfl) (fun _ _ _ h => h) (Or.inl ⟨by rfl, ?_⟩) hHeld ?_
  · intro v hSv
    clear hHeld
    go_simp
  try simp only [Act.put, List.setIfInBounds_toArray, List.set_cons_zero, List.set_cons_succ]
  refine wpAnyH_take (i := 22) (v := .bool true) (at_list rfl) (by kernel_rfl) (by kernel_rfl) (by kernel_rfl) (fun _ _ _ h => h) (Or.inl ⟨by rfl, ?_⟩) hHeld ?_
  · intro v hSv
    clear hHeld
    go_simp
  try simp only [Act.put, List.setIfInBounds_toArray, List.set_cons_zero, List.set_cons_succ]
  refine wpAnyH_take (i := 23) (v := undef) (at_list rfl) (by kernel_rfl) (by kernel_rfl) (by kernel_rfl) (fun _ _ _ h => h) (Or.inr ⟨by rfl, rfl⟩) hHeld ?_
  try simp only [Act.put, List.setIfInBounds_toArray, List.set_cons_zero, List.set_cons_succ]
  refine wpAnyH_take (i := 24) (v := undef) (at_list rfl) (by kernel_rfl) (by kernel_rfl) (by kernel_rfl) (fun _ _ _ h => h) (Or.inr ⟨by rfl, rfl⟩) hHeld ?_
  try simp only [Act.put, List.setIfInBounds_toArray, List.set_cons_zero, List.set_cons_succ]
  refine wpAnyH_take (i := 25) (v := undef) (at_list rfl) (by kernel_rfl) (by kernel_rfl) (by kernel_rfl) (fun _ _ _ h => h) (Or.inr ⟨by rfl, rfl⟩) hHeld ?_
  try simp only [Act.put, List.setIfInBounds_toArray, List.set_cons_zero, List.set_cons_succ]
  refine wpAnyH_take (i := 26) (v := undef) (at_list rfl) (by kernel_rfl) (by kernel_rfl) (by kernel_rfl) (fun _ _ _ h => h) (Or.inr ⟨by rfl, rfl⟩) hHeld ?_
  try simp only [Act.put, List.setIfInBounds_toArray, List.set_cons_zero, List.set_cons_succ]
  refine wpAnyH_take (i := 27) (v := undef) (at_list rfl) (by kernel_rfl) (by kernel_rfl) (by kernel_rfl) (fun _ _ _ h => h) (Or.inr ⟨by rfl, rfl⟩) hHeld ?_
  try simp only [Act.put, List.setIfInBounds_toArray, List.set_cons_zero, List.set_cons_succ]
  refine wpAnyH_take (i := 28) (v := undef) (at_list rfl) (by kernel_rfl) (by kernel_rfl) (by kernel_rfl) (fun _ _ _ h => h) (Or.inr ⟨by rfl, rfl⟩) hHeld ?_
  try simp only [Act.put, List.setIfInBounds_toArray, List.set_cons_zero, List.set_cons_succ]
  refine wpAnyH_take (i := 29) (v := undef) (at_list rfl) (by kernel_rfl) (by kernel_rfl) (by kernel_rfl) (fun _ _ _ h => h) (Or.inr ⟨by rfl, rfl⟩) hHeld ?_
  try simp only [Act.put, List.setIfInBounds_toArray, List.set_cons_zero, List.set_cons_succ]
  refine wpAnyH_take (i := 30) (v := undef) (at_list rfl) (by kernel_rfl) (by kernel_rfl) (by kernel_rfl) (fun _ _ _ h => h) (Or.inr ⟨by rfl, rfl⟩) hHeld ?_
  try simp only [Act.put, List.setIfInBounds_toArray, List.set_cons_zero, List.set_cons_succ]
  refine wpAnyH_take (i := 31) (v := undef) (at_list rfl) (by kernel_rfl) (by kernel_rfl) (by kernel_rfl) (fun _ _ _ h => h) (Or.inr ⟨by rfl, rfl⟩) hHeld ?_
  try simp only [Act.put, List.setIfInBounds_toArray, List.set_cons_zero, List.set_cons_succ]
  refine wpAnyH_take (i := 32) (v := undef) (at_list rfl) (by kernel_rfl) (by kernel_rfl) (by kernel_rfl) (fun _ _ _ h => h) (Or.inr ⟨by rfl, rfl⟩) hHeld ?_
  try simp only [Act.put, List.setIfInBounds_toArray, List.set_cons_zero, List.set_cons_succ]
  refine wpAnyH_take (i := 33) (v := .bool true) (at_list rfl) (by kernel_rfl) (by kernel_rfl) (by kernel_rfl) (fun _ _ _ h => h) (Or.inl ⟨by rfl, ?_⟩) hHeld ?_
  · intro v hSv
    clear hHeld
    go_simp
  try simp only [Act.put, List.setIfInBounds_toArray, List.set_cons_zero, List.set_cons_succ]
  refine wpAnyH_take (i := 34) (v := .bool true) (at_list rfl) (by kernel_rfl) (by kernel_rfl) (by kernel_rfl) (fun _ _ _ h => h) (Or.inl ⟨by rfl, ?_⟩) hHeld ?_
  · intro v hSv
    clear hHeld
    go_simp
  try simp only [Act.put, List.setIfInBounds_toArray, List.set_cons_zero, List.set_cons_succ]
  refine wpAnyH_take (i := 35) (v := .bool true) (at_list rfl) (by kernel_rfl) (by kernel_rfl) (by kernel_rfl) (fun _ _ _ h => h) (Or.inl ⟨by rfl, ?_⟩) hHeld ?_
  · intro v hSv
    clear hHeld
    go_simp
  try simp only [Act.put, List.setIfInBounds_toArray, List.set_cons_zero, List.set_cons_succ]
  refine wpAnyH_done (by kernel_rfl) ?_ _
  have HB := Lib.hid hHeld.1
  have K1 := Lib.hid hHeld.2.1
  have K2 := Lib.hid hHeld.2.2.1
  have K3 := Lib.hid hHeld.2.2.2.1
  clear hHeld
  go_wp2
  go_ret
  exact ⟨rfl, HB.out⟩
set_option maxHeartbeats 4000000 in
theorem three7_zero (a b c : Rs) (w : World) (h1 : grandN a b = 0) (h2 : grandN b c = 0) (h3 : grandN a c = 0) (h4 : grandN c a = 0) :
    Calls Try.prog 7 #[.agg (rsA a), .agg (rsA b), .agg (rsA c)] w fun e w' => e = .returned (.bool true) ∧ Below w.heap.size w w' := by
  have HB := Lib.hid (Below.refl w.heap.size w)
  have H1 := Lib.hid h1
  have H2 := Lib.hid h2
  have H3 := Lib.hid h3
  have H4 := Lib.hid h4
  clear h1 h2 h3 h4
  go_enter Try.func7, Try.ntmps7
  go_wp2_with (first | (refine big_whole rfl 29 _ rfl gK2 rfl K2.out Try.underlying29 rfl (by kernel_rfl) ?_) | (refine big_whole rfl 29 _ rfl gK1 rfl K1.out Try.underlying29 rfl (by kernel_rfl) ?_) | (refine big_box rfl 29 _ rfl (rsA c) rfl (by kernel_rfl) ?_; intro gK3 wK3 hlK3 nK3 hbK3; replace K1 := Lib.hid ((K1.out).keptB hbK3); replace K2 := Lib.hid ((K2.out).keptB hbK3); replace HB := Lib.hid (bstep HB.out hbK3); have K3 := Lib.hid nK3; clear hlK3 nK3 hbK3) | (refine big_box rfl 29 _ rfl (rsA b) rfl (by kernel_rfl) ?_; intro gK2 wK2 hlK2 nK2 hbK2; replace K1 := Lib.hid ((K1.out).keptB hbK2); replace HB := Lib.hid (bstep HB.out hbK2); have K2 := Lib.hid nK2; clear hlK2 nK2 hbK2) | (refine big_box rfl 29 _ rfl (rsA a) rfl (by kernel_rfl) ?_; intro gK1 wK1 hlK1 nK1 hbK1; replace HB := Lib.hid (bstep HB.out hbK1); have K1 := Lib.hid nK1; clear hlK1 nK1 hbK1))
  refine (grand_any a b _).mono ?_
  rintro e c1 ⟨rfl, hc1⟩
  replace K1 := Lib.hid ((K1.out).keptB hc1)
  replace K2 := Lib.hid ((K2.out).keptB hc1)
  replace K3 := Lib.hid ((K3.out).keptB hc1)
  replace HB := Lib.hid (bstep HB.out hc1)
  clear hc1
  rw [H1.out]
  go_wp2_with (first | (refine big_whole rfl 29 _ rfl gK3 rfl K3.out Try.underlying29 rfl (by kernel_rfl) ?_) | (refine big_whole rfl 29 _ rfl gK2 rfl K2.out Try.underlying29 rfl (by kernel_rfl) ?_))
  refine (grand_any b c _).mono ?_
  rintro e c2 ⟨rfl, hc2⟩
  replace K1 := Lib.hid ((K1.out).keptB hc2)
  replace K2 := Lib.hid ((K2.out).keptB hc2)
  replace K3 := Lib.hid ((K3.out).keptB hc2)
  replace HB := Lib.hid (bstep HB.out hc2)
  clear hc2
  rw [H2.out]
  go_wp2_with fail
  refine wp_region_held_drew (S := fun v => Below w.heap.size w v ∧ Holds v gK1 29 (rsA a) ∧ Holds v gK2 29 (rsA b) ∧ Holds v gK3 29 (rsA c) ∧ True) (by kernel_rfl) ?_ (fun hHeld => ?_)
  · exact ⟨bdrew HB.out, (K1.out).drew, (K2.out).drew, (K3.out).drew, trivial⟩
  clear HB K1 K2 K3
  refine wpAnyH_ready (rs := [0]) (by kernel_rfl) (by simp) ?_
  refine AllReadyH.cons (at_list rfl) (fun K hK => ?_) AllReadyH.nil
  go_simp
  refine (alive7_any _).mono ?_
  rintro e v3 ⟨rfl, hv3⟩
  go_wp2_with fail
  refine hK.out _ _ ?_ (fun hHeld2 => ?_)
  · exact ⟨bstep hHeld.1 hv3, hHeld.2.1.keptB hv3, hHeld.2.2.1.keptB hv3, hHeld.2.2.2.1.keptB hv3, trivial⟩
  clear hK K hHeld
  have hHeld := hHeld2
  clear hHeld2 hv3
  try simp only [Act.put, List.setIfInBounds_toArray, List.set_cons_zero, List.set_cons_succ]
  refine wpAnyH_take (i := 1) (v := .bool true) (at_list rfl) (by kernel_rfl) (by kernel_rfl) (by kernel_rfl) (fun _ _ _ h => h) (Or.inl ⟨by rfl, ?_⟩) hHeld ?_
  · intro v hSv
    clear hHeld
    go_simp
  try simp only [Act.put, List.setIfInBounds_toArray, List.set_cons_zero, List.set_cons_succ]
  refine wpAnyH_take (i := 2) (v := .agg (rsA a)) (at_list rfl) (by kernel_rfl) (by kernel_rfl) (by kernel_rfl) (fun _ _ _ h => h) (yields_whole (by rfl) 29 _ rfl gK1 rfl (fun v hv => hv.2.1) Try.underlying29 rfl (by kernel_rfl)) hHeld ?_
  try simp only [Act.put, List.setIfInBounds_toArray, List.set_cons_zero, List.set_cons_succ]
  refine wpAnyH_take (i := 3) (v := .agg (rsA c)) (at_list rfl) (by kernel_rfl) (by kernel_rfl) (by kernel_rfl) (fun _ _ _ h => h) (yields_whole (by rfl) 29 _ rfl gK3 rfl (fun v hv => hv.2.2.2.1) Try.underlying29 rfl (by kernel_rfl)) hHeld ?_
  try simp only [Act.put, List.setIfInBounds_toArray, List.set_cons_zero, List.set_cons_succ]
  refine wpAnyH_ready (rs := [4]) (by kernel_rfl) (by simp) ?_
  refine AllReadyH.cons (at_list rfl) (fun K hK => ?_) AllReadyH.nil
  go_simp
  refine (grand_any a c _).mono ?_
  rintro e v4 ⟨rfl, hv4⟩
  rw [H3.out]
  go_wp2_with fail
  refine hK.out _ _ ?_ (fun hHeld2 => ?_)
  · exact ⟨bstep hHeld.1 hv4, hHeld.2.1.keptB hv4, hHeld.2.2.1.keptB hv4, hHeld.2.2.2.1.keptB hv4, trivial⟩
  clear hK K hHeld
  have hHeld := hHeld2
  clear hHeld2 hv4
  try simp only [Act.put, List.setIfInBounds_toArray, List.set_cons_zero, List.set_cons_succ]
  refine wpAnyH_take (i := 5) (v := .bool true) (at_list rfl) (by kernel_rfl) (by kernel_rfl) (by kernel_rfl) (fun _ _ _ h => h) (Or.inl ⟨by rfl, ?_⟩) hHeld ?_
  · intro v hSv
    clear hHeld
    go_simp
  try simp only [Act.put, List.setIfInBounds_toArray, List.set_cons_zero, List.set_cons_succ]
  refine wpAnyH_take (i := 6) (v := .bool true) (at_list rfl) (by kernel_rfl) (by kernel_rfl) (by kernel_rfl) (fun _ _ _ h => h) (Or.inl ⟨by rfl, ?_⟩) hHeld ?_
  · intro v hSv
    clear hHeld
    go_simp
  try simp only [Act.put, List.setIfInBounds_toArray, List.set_cons_zero, List.set_cons_succ]
  refine wpAnyH_take (i := 7) (v := .bool true) (at_list rfl) (by kernel_rfl) (by kernel_rfl) (by kernel_rfl) (fun _ _ _ h => h) (Or.inl ⟨by rfl, ?_⟩) hHeld ?_
  · intro v hSv
    clear hHeld
    go_simp
  try simp only [Act.put, List.setIfInBounds_toArray, List.set_cons_zero, List.set_cons_succ]
  refine wpAnyH_take (i := 8) (v := .agg (rsA c)) (at_list rfl) (by kernel_rfl) (by kernel_rfl) (by kernel_rfl) (fun _ _ _ h => h) (yields_whole (by rfl) 29 _ rfl gK3 rfl (fun v hv => hv.2.2.2.1) Try.underlying29 rfl (by kernel_rfl)) hHeld ?_
  try simp only [Act.put, List.setIfInBounds_toArray, List.set_cons_zero, List.set_cons_succ]
  refine wpAnyH_take (i := 9) (v := .agg (rsA a)) (at_list rfl) (by kernel_rfl) (by kernel_rfl) (by kernel_rfl) (fun _ _ _ h => h) (yields_whole (by rfl) 29 _ rfl gK1 rfl (fun v hv => hv.2.1) Try.underlying29 rfl (by kernel_rfl)) hHeld ?_
  try simp only [Act.put, List.setIfInBounds_toArray, List.set_cons_zero, List.set_cons_succ]
  refine wpAnyH_take (i := 11) (v := .agg (rsA a)) (at_list rfl) (by kernel_rfl) (by kernel_rfl) (by kernel_rfl) (fun _ _ _ h => h) (yields_whole (by rfl) 29 _ rfl gK1 rfl (fun v hv => hv.2.1) Try.underlying29 rfl (by kernel_rfl)) hHeld ?_
  try simp only [Act.put, List.setIfInBounds_toArray, List.set_cons_zero, List.set_cons_succ]
  refine wpAnyH_take (i := 12) (v := .agg (rsA c)) (at_list rfl) (by kernel_rfl) (by kernel_rfl) (by kernel_rfl) (fun _ _ _ h => h) (yields_whole (by rfl) 29 _ rfl gK3 rfl (fun v hv => hv.2.2.2.1) Try.underlying29 rfl (by kernel_rfl)) hHeld ?_
  try simp only [Act.put, List.setIfInBounds_toArray, List.set_cons_zero, List.set_cons_succ]
  refine wpAnyH_ready (rs := [10]) (by kernel_rfl) (by simp) ?_
  refine AllReadyH.cons (at_list rfl) (fun K hK => ?_) AllReadyH.nil
  go_simp
  refine (grand_any c a _).mono ?_
  rintro e v5 ⟨rfl, hv5⟩
  rw [H4.out]
  go_wp2_with fail
  refine hK.out _ _ ?_ (fun hHeld2 => ?_)
  · exact ⟨bstep hHeld.1 hv5, hHeld.2.1.keptB hv5, hHeld.2.2.1.keptB hv5, hHeld.2.2.2.1.keptB hv5, trivial⟩
  clear hK K hHeld
  have hHeld := hHeld2
  clear hHeld2 hv5
  try simp only [Act.put, List.setIfInBounds_toArray, List.set_cons_zero, List.set_cons_succ]
  refine wpAnyH_ready (rs := [13]) (by kernel_rfl) (by simp) ?_
  refine AllReadyH.cons (at_list rfl) (fun K hK => ?_) AllReadyH.nil
  go_simp
  refine (grand_any a c _).mono ?_
  rintro e v6 ⟨rfl, hv6⟩
  rw [H3.out]
  go_wp2_with fail
  refine hK.out _ _ ?_ (fun hHeld2 => ?_)
  · exact ⟨bstep hHeld.1 hv6, hHeld.2.1.keptB hv6, hHeld.2.2.1.keptB hv6, hHeld.2.2.2.1.keptB hv6, trivial⟩
  clear hK K hHeld
  have hHeld := hHeld2
  clear hHeld2 hv6
  try simp only [Act.put, List.setIfInBounds_toArray, List.set_cons_zero, List.set_cons_succ]
  refine wpAnyH_take (i := 14) (v := .int .i64 0) (at_list rfl) (by kernel_rfl) (by kernel_rfl) (by kernel_rfl) (fun _ _ _ h => h) (Or.inl ⟨by rfl, ?_⟩) hHeld ?_
  · intro v hSv
    clear hHeld
    go_simp
    rfl
  try simp only [Act.put, List.setIfInBounds_toArray, List.set_cons_zero, List.set_cons_succ]
  refine wpAnyH_take (i := 15) (v := .bool true) (at_list rfl) (by kernel_rfl) (by kernel_rfl) (by kernel_rfl) (fun _ _ _ h => h) (Or.inl ⟨by rfl, ?_⟩) hHeld ?_
  · intro v hSv
    clear hHeld
    go_simp
  try simp only [Act.put, List.setIfInBounds_toArray, List.set_cons_zero, List.set_cons_succ]
  refine wpAnyH_take (i := 16) (v := .bool true) (at_list rfl) (by kernel_rfl) (by kernel_rfl) (by kernel_rfl) (fun _ _ _ h => h) (Or.inl ⟨by rfl, ?_⟩) hHeld ?_
  · intro v hSv
    clear hHeld
    go_simp
  try simp only [Act.put, List.setIfInBounds_toArray, List.set_cons_zero, List.set_cons_succ]
  refine wpAnyH_take (i := 17) (v := .bool true) (at_list rfl) (by kernel_rfl) (by kernel_rfl) (by kernel_rfl) (fun _ _ _ h => h) (Or.inl ⟨by rfl, ?_⟩) hHeld ?_
  · intro v hSv
    clear hHeld
    go_simp
  try simp only [Act.put, List.setIfInBounds_toArray, List.set_cons_zero, List.set_cons_succ]
  refine wpAnyH_take (i := 18) (v := .agg (rsA a)) (at_list rfl) (by kernel_rfl) (by kernel_rfl) (by kernel_rfl) (fun _ _ _ h => h) (yields_whole (by rfl) 29 _ rfl gK1 rfl (fun v hv => hv.2.1) Try.underlying29 rfl (by kernel_rfl)) hHeld ?_
  try simp only [Act.put, List.setIfInBounds_toArray, List.set_cons_zero, List.set_cons_succ]
  refine wpAnyH_take (i := 19) (v := .agg (rsA c)) (at_list rfl) (by kernel_rfl) (by kernel_rfl) (by kernel_rfl) (fun _ _ _ h => h) (yields_whole (by rfl) 29 _ rfl gK3 rfl (fun v hv => hv.2.2.2.1) Try.underlying29 rfl (by kernel_rfl)) hHeld ?_
  try simp only [Act.put, List.setIfInBounds_toArray, List.set_cons_zero, List.set_cons_succ]
  refine wpAnyH_ready (rs := [20]) (by kernel_rfl) (by simp) ?_
  refine AllReadyH.cons (at_list rfl) (fun K hK => ?_) AllReadyH.nil
  go_simp
  refine (grand_any a c _).mono ?_
  rintro e v7 ⟨rfl, hv7⟩
  rw [H3.out]
  go_wp2_with fail
  refine hK.out _ _ ?_ (fun hHeld2 => ?_)
  · exact ⟨bstep hHeld.1 hv7, hHeld.2.1.keptB hv7, hHeld.2.2.1.keptB hv7, hHeld.2.2.2.1.keptB hv7, trivial⟩
  clear hK K hHeld
  have hHeld := hHeld2
  clear hHeld2 hv7
  try simp only [Act.put, List.setIfInBounds_toArray, List.set_cons_zero, List.set_cons_succ]
  refine wpAnyH_take (i := 21) (v := .bool false) (at_list rfl) (by kernel_rfl) (by kernel_rfl) (by kernel_rfl) (fun _ _ _ h => h) (Or.inl ⟨by rfl, ?_⟩) hHeld ?_
  · intro v hSv
    clear hHeld
    go_simp
  try simp only [Act.put, List.setIfInBounds_toArray, List.set_cons_zero, List.set_cons_succ]
  refine wpAnyH_take (i := 22) (v := .bool false) (at_list rfl) (by kernel_rfl) (by kernel_rfl) (by kernel_rfl) (fun _ _ _ h => h) (Or.inl ⟨by rfl, ?_⟩) hHeld ?_
  · intro v hSv
    clear hHeld
    go_simp
  try simp only [Act.put, List.setIfInBounds_toArray, List.set_cons_zero, List.set_cons_succ]
  refine wpAnyH_take (i := 23) (v := .agg (rsA a)) (at_list rfl) (by kernel_rfl) (by kernel_rfl) (by kernel_rfl) (fun _ _ _ h => h) (yields_whole (by rfl) 29 _ rfl gK1 rfl (fun v hv => hv.2.1) Try.underlying29 rfl (by kernel_rfl)) hHeld ?_
  try simp only [Act.put, List.setIfInBounds_toArray, List.set_cons_zero, List.set_cons_succ]
  refine wpAnyH_take (i := 24) (v := .agg (rsA b)) (at_list rfl) (by kernel_rfl) (by kernel_rfl) (by kernel_rfl) (fun _ _ _ h => h) (yields_whole (by rfl) 29 _ rfl gK2 rfl (fun v hv => hv.2.2.1) Try.underlying29 rfl (by kernel_rfl)) hHeld ?_
  try simp only [Act.put, List.setIfInBounds_toArray, List.set_cons_zero, List.set_cons_succ]
  refine wpAnyH_ready (rs := [25]) (by kernel_rfl) (by simp) ?_
  refine AllReadyH.cons (at_list rfl) (fun K hK => ?_) AllReadyH.nil
  go_simp
  refine (grand_any a b _).mono ?_
  rintro e v8 ⟨rfl, hv8⟩
  rw [H1.out]
  go_wp2_with fail
  refine hK.out _ _ ?_ (fun hHeld2 => ?_)
  · exact ⟨bstep hHeld.1 hv8, hHeld.2.1.keptB hv8, hHeld.2.2.1.keptB hv8, hHeld.2.2.2.1.keptB hv8, trivial⟩
  clear hK K hHeld
  have hHeld := hHeld2
  clear hHeld2 hv8
  try simp only [Act.put, List.setIfInBounds_toArray, List.set_cons_zero, List.set_cons_succ]
  refine wpAnyH_take (i := 26) (v := .bool true) (at_list rfl) (by kernel_rfl) (by kernel_rfl) (by kernel_rfl) (fun _ _ _ h => h) (Or.inl ⟨by rfl, ?_⟩) hHeld ?_
  · intro v hSv
    clear hHeld
    go_simp
  try simp only [Act.put, List.setIfInBounds_toArray, List.set_cons_zero, List.set_cons_succ]
  refine wpAnyH_take (i := 27) (v := .bool true) (at_list rfl) (by kernel_rfl) (by kernel_rfl) (by kernel_rfl) (fun _ _ _ h => h) (Or.inl ⟨by rfl, ?_⟩) hHeld ?_
  · intro v hSv
    clear hHeld
    go_simp
  try simp only [Act.put, List.setIfInBounds_toArray, List.set_cons_zero, List.set_cons_succ]
  refine wpAnyH_take (i := 28) (v := .agg (rsA b)) (at_list rfl) (by kernel_rfl) (by kernel_rfl) (by kernel_rfl) (fun _ _ _ h => h) (yields_whole (by rfl) 29 _ rfl gK2 rfl (fun v hv => hv.2.2.1) Try.underlying29 rfl (by kernel_rfl)) hHeld ?_
  try simp only [Act.put, List.setIfInBounds_toArray, List.set_cons_zero, List.set_cons_succ]
  refine wpAnyH_take (i := 29) (v := .agg (rsA c)) (at_list rfl) (by kernel_rfl) (by kernel_rfl) (by kernel_rfl) (fun _ _ _ h => h) (yields_whole (by rfl) 29 _ rfl gK3 rfl (fun v hv => hv.2.2.2.1) Try.underlying29 rfl (by kernel_rfl)) hHeld ?_
  try simp only [Act.put, List.setIfInBounds_toArray, List.set_cons_zero, List.set_cons_succ]
  refine wpAnyH_ready (rs := [30]) (by kernel_rfl) (by simp) ?_
  refine AllReadyH.cons (at_list rfl) (fun K hK => ?_) AllReadyH.nil
  go_simp
  refine (grand_any b c _).mono ?_
  rintro e v9 ⟨rfl, hv9⟩
  rw [H2.out]
  go_wp2_with fail
  refine hK.out _ _ ?_ (fun hHeld2 => ?_)
  · exact ⟨bstep hHeld.1 hv9, hHeld.2.1.keptB hv9, hHeld.2.2.1.keptB hv9, hHeld.2.2.2.1.keptB hv9, trivial⟩
  clear hK K hHeld
  have hHeld := hHeld2
  clear hHeld2 hv9
  try simp only [Act.put, List.setIfInBounds_toArray, List.set_cons_zero, List.set_cons_succ]
  refine wpAnyH_take (i := 31) (v := .bool true) (at_list rfl) (by kernel_rfl) (by kernel_rfl) (by kernel_rfl) (fun _ _ _ h => h) (Or.inl ⟨by rfl, ?_⟩) hHeld ?_
  · intro v hSv
    clear hHeld
    go_simp
  try simp only [Act.put, List.setIfInBounds_toArray, List.set_cons_zero, List.set_cons_succ]
  refine wpAnyH_take (i := 32) (v := .bool true) (at_list rfl) (by kernel_rfl) (by kernel_rfl) (by kernel_rfl) (fun _ _ _ h => h) (Or.inl ⟨by rfl, ?_⟩) hHeld ?_
  · intro v hSv
    clear hHeld
    go_simp
  try simp only [Act.put, List.setIfInBounds_toArray, List.set_cons_zero, List.set_cons_succ]
  refine wpAnyH_take (i := 33) (v := .bool true) (at_list rfl) (by kernel_rfl) (by kernel_rfl) (by kernel_rfl) (fun _ _ _ h => h) (Or.inl ⟨by rfl, ?_⟩) hHeld ?_
  · intro v hSv
    clear hHeld
    go_simp
  try simp only [Act.put, List.setIfInBounds_toArray, List.set_cons_zero, List.set_cons_succ]
  refine wpAnyH_take (i := 34) (v := .bool true) (at_list rfl) (by kernel_rfl) (by kernel_rfl) (by kernel_rfl) (fun _ _ _ h => h) (Or.inl ⟨by rfl, ?_⟩) hHeld ?_
  · intro v hSv
    clear hHeld
    go_simp
  try simp only [Act.put, List.setIfInBounds_toArray, List.set_cons_zero, List.set_cons_succ]
  refine wpAnyH_take (i := 35) (v := .bool true) (at_list rfl) (by kernel_rfl) (by kernel_rfl) (by kernel_rfl) (fun _ _ _ h => h) (Or.inl ⟨by rfl, ?_⟩) hHeld ?_
  · intro v hSv
    clear hHeld
    go_simp
  try simp only [Act.put, List.setIfInBounds_toArray, List.set_cons_zero, List.set_cons_succ]
  refine wpAnyH_done (by kernel_rfl) ?_ _
  have HB := Lib.hid hHeld.1
  have K1 := Lib.hid hHeld.2.1
  have K2 := Lib.hid hHeld.2.2.1
  have K3 := Lib.hid hHeld.2.2.2.1
  clear hHeld
  go_wp2
  go_ret
  exact ⟨rfl, HB.out⟩
theorem three7_walk (a b c : Rs) (w : World) :
    Calls Try.prog 7 #[.agg (rsA a), .agg (rsA b), .agg (rsA c)] w fun e w' => e = .returned (.bool true) ∧ Below w.heap.size w w' := by
  have b1 := grandN_bd a b
  have b2 := grandN_bd b c
  have b3 := grandN_bd a c
  by_cases h1 : grandN a b = 1
  · exact three7_one a b c w h1
  · by_cases h2 : grandN b c = 1
    · exact three7_two a b c _ w rfl (by omega) h2
    · have h := grandN_trans (a := a) (b := b) (c := c) (by omega) (by omega)
      have hn := grandN_neg a c
      rcases h with ⟨_, h | ⟨h3, h4⟩⟩
      · exact three7_neg a b c _ _ w rfl (by omega) rfl (by omega) (by omega) (by omega)
      · have h5 : grandN a c = 0 := by
          rw [grandN_key, cmpL_zero _ _ (keyL_len _ _)] at *
          rw [h3, h4]
        exact three7_zero a b c w h3 h4 h5 (by omega)

end Go.Proofs.Ytifhjmhekapaoaa
