/- The walk over what the statements of rank ask first. -/
import Derived.Test.YtifhjmhekapaoaaRankFirst
namespace Go.Proofs.Ytifhjmhekapaoaa
set_option maxRecDepth 100000
open Go.RowKit
set_option linter.unusedVariables false

theorem ok_zeros : (⟨0, 0, 0, 0, 0, 0, 0, 0⟩ : Ck).ok := by
  intro z hz
  simp [Ck.l] at hz
  subst hz
  exact ⟨by decide, by decide⟩
def s71 : Rs := ⟨1, 0, 0, 0, 0, ⟨1, 0, 0, 0, 0, 0, 0, 0⟩, 0, ⟨⟨0, 0, 0, 0, 0, 0, 0, 0⟩, 0⟩, ⟨⟨0, 0, 0, 0, 0, 0, 0, 0⟩, 0⟩⟩
def s72 : Rs := ⟨2, 0, 0, 0, 0, ⟨2, 0, 0, 0, 0, 0, 0, 0⟩, 0, ⟨⟨0, 0, 0, 0, 0, 0, 0, 0⟩, 0⟩, ⟨⟨0, 0, 0, 0, 0, 0, 0, 0⟩, 0⟩⟩
def s73 : Rs := ⟨1, 0, 0, 0, 0, ⟨1, 0, 0, 0, 0, 0, 0, 0⟩, 2, ⟨⟨0, 0, 0, 0, 0, 0, 0, 0⟩, 0⟩, ⟨⟨0, 0, 0, 0, 0, 0, 0, 0⟩, 0⟩⟩
theorem s71_ok : s71.ok := ⟨by intro z hz; simp [s71, Ck.l] at hz; rcases hz with rfl | rfl <;> exact ⟨by decide, by decide⟩, ok_zeros, ok_zeros, by decide, by decide⟩
theorem s72_ok : s72.ok := ⟨by intro z hz; simp [s72, Ck.l] at hz; rcases hz with rfl | rfl <;> exact ⟨by decide, by decide⟩, ok_zeros, ok_zeros, by decide, by decide⟩
theorem s73_ok : s73.ok := ⟨by intro z hz; simp [s73, Ck.l] at hz; rcases hz with rfl | rfl <;> exact ⟨by decide, by decide⟩, ok_zeros, ok_zeros, by decide, by decide⟩
theorem two7_ok : ∀ s ∈ [s72, s71], s.ok := by
  intro s hs
  simp at hs
  rcases hs with rfl | rfl
  · exact s72_ok
  · exact s71_ok
set_option maxHeartbeats 4000000 in
theorem alive7_any (w : World) :
    Calls Try.prog 11 #[] w fun e w' => e = .returned (.bool true) ∧ Below w.heap.size w w' := by
  have HB := Lib.hid (Below.refl w.heap.size w)
  have C0 := Lib.hid (show compN s71 s72 = 1 by decide)
  have C1 := Lib.hid (show compN s72 s71 = 3 by decide)
  have C2 := Lib.hid (show compN s71 s73 = 1 by decide)
  have C3 := Lib.hid (show compN s71 s71 = 6 by decide)
  have F0 := Lib.hid (show firstN [s72, s71] = 1 by decide)
  go_enter Try.func11, Try.ntmps11
  go_wp2_with (first | (refine big_whole rfl 29 _ rfl gK2 rfl K2.out Try.underlying29 rfl (by kernel_rfl) ?_) | (refine big_whole rfl 29 _ rfl gK1 rfl K1.out Try.underlying29 rfl (by kernel_rfl) ?_) | (refine big_whole rfl 29 _ rfl gK3 rfl K3.out Try.underlying29 rfl (by kernel_rfl) ?_) | (refine big_set rfl 3 _ _ rfl gK3 13 (.int .i64 2) rfl rfl K3.out (by kernel_rfl) rfl rfl (of_decide_eq_true (by kernel_rfl)) (rsA s73) (by kernel_rfl) ?_; intro vK39 nK3 htK3; replace K3 := Lib.hid nK3; replace K1 := Lib.hid ((K1.out).touch htK3 (by have := NK1K3.out; omega)); replace K2 := Lib.hid ((K2.out).touch htK3 (by have := NK2K3.out; omega)); replace HB := Lib.hid (btouch HB.out htK3 LK3.out); clear nK3 htK3; have M5 := True.intro) | (refine big_fill rfl 29 _ _ rfl gK3 (rsA s71) rfl rfl K3.out (by kernel_rfl) (by kernel_rfl) (by kernel_rfl) ?_; intro vK30 nK3 htK3; replace K3 := Lib.hid nK3; replace K1 := Lib.hid ((K1.out).touch htK3 (by have := NK1K3.out; omega)); replace K2 := Lib.hid ((K2.out).touch htK3 (by have := NK2K3.out; omega)); replace HB := Lib.hid (btouch HB.out htK3 LK3.out); clear nK3 htK3; have M6 := True.intro) | (refine big_alloc rfl 29 rfl (rsA zeroR) (by kernel_rfl) ?_; intro gK3 wK3 hlK3 nK3 hbK3; have K3 := Lib.hid nK3; have LK3 := Lib.hid (Nat.le_trans (HB.out).size hlK3); have NK1K3 := Lib.hid (show gK1 ≠ gK3 by have := (K1.out).inside; omega); replace K1 := Lib.hid ((K1.out).keptB hbK3); have NK2K3 := Lib.hid (show gK2 ≠ gK3 by have := (K2.out).inside; omega); replace K2 := Lib.hid ((K2.out).keptB hbK3); replace HB := Lib.hid (bstep HB.out hbK3); clear hlK3 nK3 hbK3) | (refine big_fill rfl 29 _ _ rfl gK2 (rsA s72) rfl rfl K2.out (by kernel_rfl) (by kernel_rfl) (by kernel_rfl) ?_; intro vK20 nK2 htK2; replace K2 := Lib.hid nK2; replace K1 := Lib.hid ((K1.out).touch htK2 (by have := NK1K2.out; omega)); replace HB := Lib.hid (btouch HB.out htK2 LK2.out); clear nK2 htK2) | (refine big_fill rfl 29 _ _ rfl gK1 (rsA s71) rfl rfl K1.out (by kernel_rfl) (by kernel_rfl) (by kernel_rfl) ?_; intro vK10 nK1 htK1; replace K1 := Lib.hid nK1; replace K2 := Lib.hid ((K2.out).touch htK1 (by have := NK1K2.out; omega)); replace HB := Lib.hid (btouch HB.out htK1 LK1.out); clear nK1 htK1) | (refine big_alloc rfl 29 rfl (rsA zeroR) (by kernel_rfl) ?_; intro gK2 wK2 hlK2 nK2 hbK2; have K2 := Lib.hid nK2; have LK2 := Lib.hid (Nat.le_trans (HB.out).size hlK2); have NK1K2 := Lib.hid (show gK1 ≠ gK2 by have := (K1.out).inside; omega); replace K1 := Lib.hid ((K1.out).keptB hbK2); replace HB := Lib.hid (bstep HB.out hbK2); clear hlK2 nK2 hbK2) | (refine big_alloc rfl 29 rfl (rsA zeroR) (by kernel_rfl) ?_; intro gK1 wK1 hlK1 nK1 hbK1; have K1 := Lib.hid nK1; have LK1 := Lib.hid (Nat.le_trans (HB.out).size hlK1); replace HB := Lib.hid (bstep HB.out hbK1); clear hlK1 nK1 hbK1) | (have hq_ := M3; clear hq_; refine big_build rfl 29 _ rfl (rsA s72) (by kernel_rfl) ?_; have M4 := True.intro) | (have hq_ := M2; clear hq_; refine big_build rfl 25 _ rfl (#[.int .u8 2, .int .u8 0, .int .u8 0, .int .u8 0, .int .u8 0, .int .u8 0, .int .u8 0, .int .u8 0]) (by kernel_rfl) ?_; have M3 := True.intro) | (have hq_ := M1; clear hq_; refine big_build rfl 29 _ rfl (rsA s71) (by kernel_rfl) ?_; have M2 := True.intro) | (refine big_build rfl 25 _ rfl (#[.int .u8 1, .int .u8 0, .int .u8 0, .int .u8 0, .int .u8 0, .int .u8 0, .int .u8 0, .int .u8 0]) (by kernel_rfl) ?_; have M1 := True.intro))
  clear M1 M2 M3 M4 M5 M6
  refine (comp7_any s71 s72 _ s71_ok s72_ok).mono ?_
  rintro e wc0 ⟨rfl, hc0⟩
  rw [C0.out]
  replace K1 := Lib.hid ((K1.out).keptB hc0)
  replace K2 := Lib.hid ((K2.out).keptB hc0)
  replace K3 := Lib.hid ((K3.out).keptB hc0)
  replace HB := Lib.hid (bstep HB.out hc0)
  clear hc0
  go_wp2_with (first | (refine big_whole rfl 29 _ rfl gK2 rfl K2.out Try.underlying29 rfl (by kernel_rfl) ?_) | (refine big_whole rfl 29 _ rfl gK1 rfl K1.out Try.underlying29 rfl (by kernel_rfl) ?_) | (refine big_whole rfl 29 _ rfl gK3 rfl K3.out Try.underlying29 rfl (by kernel_rfl) ?_))
  refine (comp7_any s72 s71 _ s72_ok s71_ok).mono ?_
  rintro e wc1 ⟨rfl, hc1⟩
  rw [C1.out]
  replace K1 := Lib.hid ((K1.out).keptB hc1)
  replace K2 := Lib.hid ((K2.out).keptB hc1)
  replace K3 := Lib.hid ((K3.out).keptB hc1)
  replace HB := Lib.hid (bstep HB.out hc1)
  clear hc1
  go_wp2_with (first | (refine big_whole rfl 29 _ rfl gK2 rfl K2.out Try.underlying29 rfl (by kernel_rfl) ?_) | (refine big_whole rfl 29 _ rfl gK1 rfl K1.out Try.underlying29 rfl (by kernel_rfl) ?_) | (refine big_whole rfl 29 _ rfl gK3 rfl K3.out Try.underlying29 rfl (by kernel_rfl) ?_))
  refine (comp7_any s71 s73 _ s71_ok s73_ok).mono ?_
  rintro e wc2 ⟨rfl, hc2⟩
  rw [C2.out]
  replace K1 := Lib.hid ((K1.out).keptB hc2)
  replace K2 := Lib.hid ((K2.out).keptB hc2)
  replace K3 := Lib.hid ((K3.out).keptB hc2)
  replace HB := Lib.hid (bstep HB.out hc2)
  clear hc2
  go_wp2_with (first | (refine big_whole rfl 29 _ rfl gK2 rfl K2.out Try.underlying29 rfl (by kernel_rfl) ?_) | (refine big_whole rfl 29 _ rfl gK1 rfl K1.out Try.underlying29 rfl (by kernel_rfl) ?_) | (refine big_whole rfl 29 _ rfl gK3 rfl K3.out Try.underlying29 rfl (by kernel_rfl) ?_))
  refine (comp7_any s71 s71 _ s71_ok s71_ok).mono ?_
  rintro e wc3 ⟨rfl, hc3⟩
  rw [C3.out]
  replace K1 := Lib.hid ((K1.out).keptB hc3)
  replace K2 := Lib.hid ((K2.out).keptB hc3)
  replace K3 := Lib.hid ((K3.out).keptB hc3)
  replace HB := Lib.hid (bstep HB.out hc3)
  clear hc3
  go_wp2_with (first | (refine big_slices rfl 35 29 2 _ rfl (setsA [s72, s71]) 32 Try.underlying35 rfl rfl rfl (of_decide_eq_true (by kernel_rfl)) (of_decide_eq_true (by kernel_rfl)) (by kernel_rfl) ?_; intro gK4 wK4 hlK4 nK4 hbK4; have K4 := Lib.hid nK4; replace K1 := Lib.hid ((K1.out).keptB hbK4); replace K2 := Lib.hid ((K2.out).keptB hbK4); replace K3 := Lib.hid ((K3.out).keptB hbK4); replace HB := Lib.hid (bstep HB.out hbK4); clear hlK4 nK4 hbK4) | (refine big_whole rfl 29 _ rfl gK2 rfl K2.out Try.underlying29 rfl (by kernel_rfl) ?_) | (refine big_whole rfl 29 _ rfl gK1 rfl K1.out Try.underlying29 rfl (by kernel_rfl) ?_))
  refine (first7_any [s72, s71] gK4 0 2 2 _ two7_ok rfl (by omega) (sets_at K4.out)).mono ?_
  rintro e wf ⟨rfl, hf⟩
  rw [F0.out]
  replace HB := Lib.hid (bstep HB.out hf)
  clear hf
  go_wp2_with fail
  refine (turn7_any 2 _).mono ?_
  rintro e wt ⟨rfl, rfl⟩
  go_wp2
  go_ret
  exact ⟨rfl, HB.out⟩

end Go.Proofs.Ytifhjmhekapaoaa
