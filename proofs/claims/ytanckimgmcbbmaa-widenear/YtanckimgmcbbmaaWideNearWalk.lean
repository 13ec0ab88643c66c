/- The walk over the law WideNear. -/
import Derived.Test.YtanckimgmcbbmaaWideLaws
namespace Go.Proofs.Ytanckimgmcbbmaa
open Go.RowKit

set_option maxHeartbeats 1000000 in
theorem near_walk (a b c : Int) (ha : In64 a) (w : World) :
    Calls Try.prog 5 #[.int .i64 a, .int .i64 b, .int .i64 c] w fun e w' => e = .returned (.bool true) ∧ Below w.heap.size w w' := by
  obtain ⟨X, hX⟩ : ∃ X, told (floorB a b c) (a * b / c) = X := ⟨_, rfl⟩
  obtain ⟨B, hB⟩ : ∃ X, floorB a b c = X := ⟨_, rfl⟩
  obtain ⟨Y, hY⟩ : ∃ X, told (ceilB a b c) (ceilN a b c) = X := ⟨_, rfl⟩
  obtain ⟨D, hD⟩ : ∃ X, ceilB a b c = X := ⟨_, rfl⟩
  obtain ⟨M, hM⟩ : ∃ X, told (floorB a b 1) (a * b) = X := ⟨_, rfl⟩
  obtain ⟨E, hE⟩ : ∃ X, floorB a b 1 = X := ⟨_, rfl⟩
  have H1 := Lib.hid (floor_as a b c X B hX hB)
  have H2 := Lib.hid (ceil_as a b c Y D hY hD ha)
  have H3 := Lib.hid (mul_as a b M E hM hE)
  by_cases hBD : B = true ∧ D = true
  · obtain ⟨rfl, rfl⟩ := hBD
    obtain ⟨_, _, hcs, hc, hxs⟩ := floorB_parts hB
    have hxs' := smallB_iff.1 hxs
    rw [hB, told_true] at hX
    rw [hD, told_true] at hY
    rw [hX] at hxs'
    obtain ⟨x1, x2⟩ := hxs'
    have hn := near_num (a := a) (b := b) hc
    rw [hX, hY] at hn
    cases hE' : E
    · subst hE'
      clear hX hY hM hB hD hE ha hxs hcs
      rcases hn with ⟨rfl, _⟩ | ⟨rfl, _⟩
      all_goals
        go_enter Try.func5, Try.ntmps5
        go_wp2_with fail
        refine (H1.out _).mono ?_
        rintro e w1 ⟨rfl, hb1⟩
        go_wp2_with fail
        refine (H2.out _).mono ?_
        rintro e w2 ⟨rfl, hb2⟩
        go_wp2_with fail
        refine (H3.out _).mono ?_
        rintro e w3 ⟨rfl, hb3⟩
        go_wp2_with fail
        refine (alive_any _).mono ?_
        rintro e w4 ⟨rfl, hb4⟩
        go_wp2
        go_ret
        exact ⟨rfl, bstep (bstep (bstep hb1 hb2) hb3) hb4⟩
    · subst hE'
      rw [hE, told_true] at hM
      rw [hM] at hn
      clear hX hY hM hB hD hE ha hxs hcs
      rcases hn with ⟨rfl, hr⟩ | ⟨rfl, hr⟩
      · have hr' : (M.tmod c == 0) = true := by simp [hr]
        clear hr
        go_enter Try.func5, Try.ntmps5
        go_wp2_with fail
        refine (H1.out _).mono ?_
        rintro e w1 ⟨rfl, hb1⟩
        go_wp2_with fail
        refine (H2.out _).mono ?_
        rintro e w2 ⟨rfl, hb2⟩
        go_wp2_with fail
        refine (H3.out _).mono ?_
        rintro e w3 ⟨rfl, hb3⟩
        go_wp2_with fail
        refine (alive_any _).mono ?_
        rintro e w4 ⟨rfl, hb4⟩
        go_wp2
        go_ret
        exact ⟨ret_bool (by simp), bstep (bstep (bstep hb1 hb2) hb3) hb4⟩
      · have hr' : (M.tmod c == 0) = false := by simp [hr]
        clear hr
        go_enter Try.func5, Try.ntmps5
        go_wp2_with fail
        refine (H1.out _).mono ?_
        rintro e w1 ⟨rfl, hb1⟩
        go_wp2_with fail
        refine (H2.out _).mono ?_
        rintro e w2 ⟨rfl, hb2⟩
        go_wp2_with fail
        refine (H3.out _).mono ?_
        rintro e w3 ⟨rfl, hb3⟩
        go_wp2_with fail
        refine (alive_any _).mono ?_
        rintro e w4 ⟨rfl, hb4⟩
        go_wp2
        go_ret
        exact ⟨ret_bool (by simp; omega), bstep (bstep (bstep hb1 hb2) hb3) hb4⟩
  · clear hX hB hY hD hM hE ha
    cases B
    · go_enter Try.func5, Try.ntmps5
      go_wp2_with fail
      refine (H1.out _).mono ?_
      rintro e w1 ⟨rfl, hb1⟩
      go_wp2_with fail
      refine (H2.out _).mono ?_
      rintro e w2 ⟨rfl, hb2⟩
      go_wp2_with fail
      refine (alive_any _).mono ?_
      rintro e w4 ⟨rfl, hb4⟩
      go_wp2
      go_ret
      exact ⟨rfl, bstep (bstep hb1 hb2) hb4⟩
    · cases D
      · clear hBD
        go_enter Try.func5, Try.ntmps5
        go_wp2_with fail
        refine (H1.out _).mono ?_
        rintro e w1 ⟨rfl, hb1⟩
        go_wp2_with fail
        refine (H2.out _).mono ?_
        rintro e w2 ⟨rfl, hb2⟩
        go_wp2_with fail
        refine (alive_any _).mono ?_
        rintro e w4 ⟨rfl, hb4⟩
        go_wp2
        go_ret
        exact ⟨rfl, bstep (bstep hb1 hb2) hb4⟩
      · exact absurd ⟨rfl, rfl⟩ hBD

end Go.Proofs.Ytanckimgmcbbmaa
