/- The walk over BestNone. -/
import Derived.Test.YtcmcgkcljefckaaBestLaw1
import Derived.Test.YtcmcgkcljefckaaBestNoneB
import Derived.Deep.DeepCutAuto
import Derived.Deep.LoopGhost
import Derived.WalkMore
import Derived.Laws.OwnMore
namespace Go.Proofs.Ytcmcgkcljefckaa
set_option maxRecDepth 100000
open Go.RowKit
set_option linter.unusedVariables false
set_option linter.unusedSimpArgs false

set_option maxHeartbeats 4000000 in
theorem none9 (many : Int) (s : Rs) (w : World) (hs : s.ok) :
    Calls Try.prog 7 #[.int .i64 many, .agg (rsA s)] w fun e w' => e = .returned (.bool true) ∧ Below w.heap.size w w' := by
  have OS := Lib.hid hs
  clear hs
  have HB := Lib.hid (Below.refl w.heap.size w)
  go_enter Try.func7, Try.ntmps7
  go_upto_region 1 with ((refine big_box rfl 31 _ rfl (rsA s) rfl (by kernel_rfl) ?_; intro gK3 wK3 hlK3 nK3 hbK3; have K3 := Lib.hid nK3; have LK3 := Lib.hid (Nat.le_trans (HB.out).size hlK3); replace HB := Lib.hid (bstep HB.out hbK3); clear hlK3 nK3 hbK3; try simp only [Act.put, List.setIfInBounds_toArray, List.set_cons_zero, List.set_cons_succ]))
  by_cases h1 : many < 0
  · have d1 : decide (many < 0) = true := decide_eq_true h1
    clear h1
    go_wp2_with fail
    refine (alive9_any _).mono ?_
    rintro e c1 ⟨rfl, hc1⟩
    replace K3 := Lib.hid ((K3.out).keptB hc1)
    replace HB := Lib.hid (bstep HB.out hc1)
    clear hc1
    go_wp2
    try rw [Exit.noGoto_ret]
    go_ret
    exact ⟨rfl, HB.out⟩
  · have d1 : decide (many < 0) = false := decide_eq_false h1
    by_cases h2 : 100 < many
    · have d2 : decide (100 < many) = true := decide_eq_true h2
      clear h2
      go_wp2_with fail
      refine (alive9_any _).mono ?_
      rintro e c1 ⟨rfl, hc1⟩
      replace K3 := Lib.hid ((K3.out).keptB hc1)
      replace HB := Lib.hid (bstep HB.out hc1)
      clear hc1
      go_wp2
      try rw [Exit.noGoto_ret]
      go_ret
      exact ⟨rfl, HB.out⟩
    · have d2 : decide (100 < many) = false := decide_eq_false h2
      obtain ⟨n, hn⟩ : ∃ n : Nat, many = (n : Int) := ⟨many.toNat, by omega⟩
      subst hn
      have HN : Hid (n ≤ 100) := by rw [Hid]; omega
      go_upto_region 3 with fail
      clear d1 d2 h1 h2
      have hn100 : n ≤ 100 := HN.out
      obtain ⟨B, hB⟩ : ∃ B, wK3.heap.size = B := ⟨_, rfl⟩
      have HBE := Lib.hid hB
      have LBK3 := Lib.hid (show gK3 < B by rw [← hB]; exact (K3.out).inside)
      have HWB := Lib.hid (show w.heap.size ≤ B by rw [← hB]; exact (HB.out).size)
      clear hB
      obtain ⟨i0, hi0, hq0⟩ := Option.map_eq_some_iff.1 info_pch
      simp only [Prod.mk.injEq] at hq0
      obtain ⟨hz0, hz1, hz2⟩ := hq0
      have HI := Lib.hid hi0
      have HZ0 := Lib.hid hz0
      have HZ1 := Lib.hid hz1
      have HZ2 := Lib.hid hz2
      clear hi0 hz0 hz1 hz2
      go_upto_region 4 with (refine wpList_make_full _ rfl _ _ 40 rfl B 34 i0 (.agg (chA zeroCh)) 33 Try.underlying40 HI.out HZ0.out HZ1.out .i64 .i64 _ _ n rfl rfl rfl rfl (by rw [HZ2.out]; omega) (by unfold maxLen; omega) (Nat.le_of_eq HBE.out.symm) ?_; intro w1 hown1 hg1; have hb1 : Below wK3.heap.size wK3 w1 := (Below.refl _ wK3).grown hg1 (Nat.le_refl _) (fun k hk => by cases hk); rw [HBE.out, made_chs n] at hown1; rw [HBE.out]; have OW := Lib.hid (RowB.mk hown1 (by rw [← HBE.out]; exact hb1.size)); replace K3 := Lib.hid ((K3.out).keptB hb1); replace HB := Lib.hid (bstep HB.out hb1); clear hown1 hg1 hb1)
      clear HBE
      go_upto_region 5 with (first | (refine big_fill rfl 34 _ _ rfl gK6 (chA ⟨s, true⟩) rfl rfl K6.out (by kernel_rfl) (by kernel_rfl) (by kernel_rfl) ?_; intro vK60 nK6 htK6; replace K6 := Lib.hid nK6; replace OW := Lib.hid ((OW.out).touch htK6 OOWK6.out); replace K3 := Lib.hid ((K3.out).touch htK6 OK3K6.out); replace HB := Lib.hid (btouch HB.out htK6 LK6.out); clear nK6 htK6; try simp only [Act.put, List.setIfInBounds_toArray, List.set_cons_zero, List.set_cons_succ]) | (refine big_alloc rfl 34 rfl (chA zeroCh) (by kernel_rfl) ?_; intro gK6 wK6 hlK6 nK6 hbK6; have K6 := Lib.hid nK6; have LK6 := Lib.hid (Nat.le_trans (HB.out).size hlK6); have OOWK6 := Lib.hid ((OW.out).off hlK6); have OK3K6 := Lib.hid ((K3.out).off hlK6); replace OW := Lib.hid ((OW.out).keptB hbK6); replace K3 := Lib.hid ((K3.out).keptB hbK6); replace HB := Lib.hid (bstep HB.out hbK6); clear hlK6 nK6 hbK6; try simp only [Act.put, List.setIfInBounds_toArray, List.set_cons_zero, List.set_cons_succ]) | (refine big_build rfl 34 _ rfl (chA ⟨s, true⟩) (by kernel_rfl) ?_; try simp only [Act.put, List.setIfInBounds_toArray, List.set_cons_zero, List.set_cons_succ]) | (refine big_whole rfl 31 _ rfl gK3 rfl K3.out Try.underlying31 rfl (by kernel_rfl) ?_; try simp only [Act.put, List.setIfInBounds_toArray, List.set_cons_zero, List.set_cons_succ]))
      go_wp2_with fail
      refine (alive9_any _).mono ?_
      rintro e c1 ⟨rfl, hc1⟩
      replace OW := Lib.hid ((OW.out).keptB hc1)
      replace K3 := Lib.hid ((K3.out).keptB hc1)
      replace K6 := Lib.hid ((K6.out).keptB hc1)
      replace HB := Lib.hid (bstep HB.out hc1)
      clear hc1
      have CI := Lib.hid (own_chs (OW.out).row)
      go_wp2_with fail
      refine (pall9_in _ (List.replicate n zeroCh) _ (none_ok n) (by simp; omega) CI.out).mono ?_
      rintro e c2 ⟨rfl, hc2⟩
      replace OW := Lib.hid ((OW.out).keptB hc2)
      replace K3 := Lib.hid ((K3.out).keptB hc2)
      replace K6 := Lib.hid ((K6.out).keptB hc2)
      replace HB := Lib.hid (bstep HB.out hc2)
      clear hc2
      rw [allN_none n]
      clear CI
      go_wp2_with (first | (refine big_append rfl _ _ 40 34 rfl (.agg (chA zeroCh)) 33 96 Try.underlying40 info_pch rfl (by omega) (by omega) B rfl OW.out gK9 1 (chsL [⟨s, true⟩]) rfl rfl ((K9.out).range (by kernel_rfl)) (by kernel_rfl) (by omega) (by omega) ?_; intro x2 w9 ow9 hg9 hn9; have CI := Lib.hid (own_chs (chsL_append _ _ ▸ ow9.row)); replace K3 := Lib.hid ((K3.out).grown hg9 ((OW.out).ne LBK3.out)); replace K6 := Lib.hid ((K6.out).grown hg9 OOWK6.out); replace HB := Lib.hid ((OW.out).hb HWB.out HB.out hg9); clear ow9 hg9 hn9 K9 OW; try simp only [Act.put, List.setIfInBounds_toArray, List.set_cons_zero, List.set_cons_succ]) | (refine big_slices rfl 40 34 1 _ rfl (chsA [⟨s, true⟩]) 33 Try.underlying40 rfl rfl rfl (of_decide_eq_true (by kernel_rfl)) (of_decide_eq_true (by kernel_rfl)) (by kernel_rfl) ?_; intro gK9 wK9 hlK9 nK9 hbK9; have K9 := Lib.hid nK9; replace OW := Lib.hid ((OW.out).keptB hbK9); replace K3 := Lib.hid ((K3.out).keptB hbK9); replace K6 := Lib.hid ((K6.out).keptB hbK9); replace HB := Lib.hid (bstep HB.out hbK9); clear hlK9 nK9 hbK9; try simp only [Act.put, List.setIfInBounds_toArray, List.set_cons_zero, List.set_cons_succ]) | (refine big_whole rfl 34 _ rfl gK6 rfl K6.out Try.underlying34 rfl (by kernel_rfl) ?_; try simp only [Act.put, List.setIfInBounds_toArray, List.set_cons_zero, List.set_cons_succ]))
      refine (pall9_in _ (List.replicate n zeroCh ++ [⟨s, true⟩]) _ (by intro c hc; rcases List.mem_append.1 hc with h | h; exact none_ok n c h; rw [List.mem_singleton.1 h]; exact OS.out) (by simp; omega) CI.out).mono ?_
      rintro e c1 ⟨rfl, hc1⟩
      replace K3 := Lib.hid ((K3.out).keptB hc1)
      replace K6 := Lib.hid ((K6.out).keptB hc1)
      replace HB := Lib.hid (bstep HB.out hc1)
      clear hc1
      rw [allN_last n s]
      clear CI
      have HZ := Lib.hid (none_ok 1 zeroCh (by simp))
      go_wp2_with (first | (refine big_build rfl 34 _ rfl (chA ⟨s, false⟩) (by kernel_rfl) ?_; try simp only [Act.put, List.setIfInBounds_toArray, List.set_cons_zero, List.set_cons_succ]) | (refine big_whole rfl 34 _ rfl gK6 rfl K6.out Try.underlying34 rfl (by kernel_rfl) ?_; try simp only [Act.put, List.setIfInBounds_toArray, List.set_cons_zero, List.set_cons_succ]) | (refine big_whole rfl 31 _ rfl gK3 rfl K3.out Try.underlying31 rfl (by kernel_rfl) ?_; try simp only [Act.put, List.setIfInBounds_toArray, List.set_cons_zero, List.set_cons_succ]))
      refine (pbetter9_any ⟨s, true⟩ ⟨s, false⟩ _ OS.out OS.out).mono ?_
      rintro e c2 ⟨rfl, hc2⟩
      replace K3 := Lib.hid ((K3.out).keptB hc2)
      replace K6 := Lib.hid ((K6.out).keptB hc2)
      replace HB := Lib.hid (bstep HB.out hc2)
      clear hc2
      rw [show betterB ⟨s, true⟩ ⟨s, false⟩ = true from rfl]
      go_wp2_with (first | (refine big_build rfl 34 _ rfl (chA ⟨s, false⟩) (by kernel_rfl) ?_; try simp only [Act.put, List.setIfInBounds_toArray, List.set_cons_zero, List.set_cons_succ]) | (refine big_whole rfl 34 _ rfl gK6 rfl K6.out Try.underlying34 rfl (by kernel_rfl) ?_; try simp only [Act.put, List.setIfInBounds_toArray, List.set_cons_zero, List.set_cons_succ]) | (refine big_whole rfl 31 _ rfl gK3 rfl K3.out Try.underlying31 rfl (by kernel_rfl) ?_; try simp only [Act.put, List.setIfInBounds_toArray, List.set_cons_zero, List.set_cons_succ]))
      refine (pbetter9_any ⟨s, false⟩ ⟨s, true⟩ _ OS.out OS.out).mono ?_
      rintro e c3 ⟨rfl, hc3⟩
      replace K3 := Lib.hid ((K3.out).keptB hc3)
      replace K6 := Lib.hid ((K6.out).keptB hc3)
      replace HB := Lib.hid (bstep HB.out hc3)
      clear hc3
      rw [show betterB ⟨s, false⟩ ⟨s, true⟩ = false from rfl]
      have GATE : Hid True := trivial
      go_wp2_with (first | (have _ := GATE.out; refine big_build rfl 34 _ rfl (chA zeroCh) (by kernel_rfl) ?_; clear GATE; try simp only [Act.put, List.setIfInBounds_toArray, List.set_cons_zero, List.set_cons_succ]) | (refine big_build rfl 34 _ rfl (chA ⟨s, false⟩) (by kernel_rfl) ?_; try simp only [Act.put, List.setIfInBounds_toArray, List.set_cons_zero, List.set_cons_succ]) | (refine big_whole rfl 31 _ rfl gK3 rfl K3.out Try.underlying31 rfl (by kernel_rfl) ?_; try simp only [Act.put, List.setIfInBounds_toArray, List.set_cons_zero, List.set_cons_succ]))
      refine (pbetter9_any zeroCh ⟨s, false⟩ _ HZ.out OS.out).mono ?_
      rintro e c4 ⟨rfl, hc4⟩
      replace K3 := Lib.hid ((K3.out).keptB hc4)
      replace K6 := Lib.hid ((K6.out).keptB hc4)
      replace HB := Lib.hid (bstep HB.out hc4)
      clear hc4
      rw [show betterB zeroCh ⟨s, false⟩ = false from rfl]
      go_wp2
      try rw [Exit.noGoto_ret]
      go_ret
      exact ⟨rfl, HB.out⟩

end Go.Proofs.Ytcmcgkcljefckaa
