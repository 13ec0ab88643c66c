/- The walk over CivilFours. -/
import Derived.Test.YtfdadebddfhpdaaDoorCivilAlive
import Derived.Test.YtfdadebddfhpdaaDoorCivilLaid
import Derived.Deep.DeepCutAuto
import Derived.Deep.LoopGhost
namespace Go.Proofs.YtfdadebddfhpdaaDoor
set_option maxRecDepth 100000
open Go.RowKit
set_option linter.unusedVariables false
set_option linter.unusedSimpArgs false

theorem four_dayN {y m d : Int} (h : 1970 ≤ y) : dayN (y + 400) m d = dayN y m d + 146097 := by
  unfold dayN
  have e : (y + 400 - 1970).toNat = (y - 1970).toNat + 400 := by omega
  have hm : ∀ k : Nat, monsN (y + 400) k = monsN y k := by
    intro k
    induction k with
    | zero => rfl
    | succ k ih =>
      show monsN (y + 400) k + monN (y + 400) _ = monsN y k + monN y _
      rw [ih, monN_400]
  rw [e, yearsN_round, hm]
  omega
set_option maxHeartbeats 4000000 in
theorem fours15 (y m d : Int) (w : World) (hT : Tabs w) :
    Calls Tryd.prog 10 #[.int .i64 y, .int .i64 m, .int .i64 d] w fun e w' => e = .returned (.bool true) ∧ Below w.heap.size w w' := by
  have HB := Lib.hid (Below.refl w.heap.size w)
  have HT := Lib.hid hT
  clear hT
  obtain ⟨Y, HY⟩ : ∃ x, IntKind.i64.wrap (y + 400) = x := ⟨_, rfl⟩
  rcases Bool.eq_false_or_eq_true (dayB y m d) with ha | ha
  · rcases Bool.eq_false_or_eq_true (dayB Y m d) with hb | hb
    · obtain ⟨⟨y0, y1⟩, hm, d0, d1⟩ := dayB_iff.1 ha
      obtain ⟨⟨Y0, Y1⟩, _, _, _⟩ := dayB_iff.1 hb
      have e0 : Y = y + 400 := by rw [← HY, IntKind.wrap_i64] <;> omega
      have e1 : dayV Y m d = dayV y m d + 146097 := by
        unfold dayV
        rw [ha, hb, if_pos rfl, if_pos rfl, e0]
        exact four_dayN y0
      have h2 := dayN_bd ha
      have e2 : dayV y m d = dayN y m d := by unfold dayV; rw [ha]; rfl
      rw [← e2] at h2
      have HA := Lib.hid ha
      have HBB := Lib.hid hb
      obtain ⟨N, hN⟩ : ∃ x, dayV y m d = x := ⟨_, rfl⟩
      rw [hN] at e1 h2
      have HN := Lib.hid hN
      have HE := Lib.hid e1
      have q0 : IntKind.i64.wrap (N + 146097 - N) = 146097 := by rw [IntKind.wrap_i64] <;> omega
      have q1 : N + 146097 - N = 146097 := by omega
      clear ha hb e0 e1 e2 h2 hN y0 y1 hm d0 d1 Y0 Y1
      go_enter Tryd.func10, Tryd.ntmps10
      go_wp2_with fail
      refine (pday15_any y m d _ ((HT.out).keptB HB.out).mons).mono ?_
      rintro e w1 ⟨rfl, rfl⟩
      rw [HN.out, HA.out]
      go_wp2_with fail
      refine (pday15_any Y m d _ ((HT.out).keptB HB.out).mons).mono ?_
      rintro e w1 ⟨rfl, rfl⟩
      rw [HE.out, HBB.out]
      go_wp2_with fail
      refine (alive15_any _ ((HT.out).keptB HB.out)).mono ?_
      rintro e c1 ⟨rfl, hc1⟩
      replace HB := Lib.hid (bstep HB.out hc1)
      clear hc1
      go_wp2
      try rw [Exit.noGoto_ret]
      go_ret
      exact ⟨rfl, HB.out⟩
    · have g0 : 9599 < y := by
        by_cases hq : y ≤ 9599
        · have h3 := four_day ha hq
          obtain ⟨⟨y0, y1⟩, _, _, _⟩ := dayB_iff.1 ha
          have e0 : Y = y + 400 := by rw [← HY, IntKind.wrap_i64] <;> omega
          rw [e0, h3] at hb
          cases hb
        · omega
      have g1 : decide (y > 9599) = true := decide_eq_true g0
      have g2 : decide (9599 < y) = true := decide_eq_true g0
      have HA := Lib.hid ha
      have HBB := Lib.hid hb
      obtain ⟨N, HN⟩ : ∃ z_, Hid (dayV y m d = z_) := ⟨_, Lib.hid rfl⟩
      obtain ⟨O, HO⟩ : ∃ z_, Hid (dayV Y m d = z_) := ⟨_, Lib.hid rfl⟩
      clear g0 ha hb
      go_enter Tryd.func10, Tryd.ntmps10
      go_wp2_with fail
      refine (pday15_any y m d _ ((HT.out).keptB HB.out).mons).mono ?_
      rintro e w1 ⟨rfl, rfl⟩
      rw [HN.out, HA.out]
      go_wp2_with fail
      refine (pday15_any Y m d _ ((HT.out).keptB HB.out).mons).mono ?_
      rintro e w1 ⟨rfl, rfl⟩
      rw [HO.out, HBB.out]
      go_wp2_with fail
      refine (alive15_any _ ((HT.out).keptB HB.out)).mono ?_
      rintro e c1 ⟨rfl, hc1⟩
      replace HB := Lib.hid (bstep HB.out hc1)
      clear hc1
      go_wp2
      try rw [Exit.noGoto_ret]
      go_ret
      exact ⟨rfl, HB.out⟩
  · rcases Bool.eq_false_or_eq_true (dayB Y m d) with hb | hb
    · have HA := Lib.hid ha
      have HBB := Lib.hid hb
      obtain ⟨N, HN⟩ : ∃ z_, Hid (dayV y m d = z_) := ⟨_, Lib.hid rfl⟩
      obtain ⟨O, HO⟩ : ∃ z_, Hid (dayV Y m d = z_) := ⟨_, Lib.hid rfl⟩
      clear ha hb
      go_enter Tryd.func10, Tryd.ntmps10
      go_wp2_with fail
      refine (pday15_any y m d _ ((HT.out).keptB HB.out).mons).mono ?_
      rintro e w1 ⟨rfl, rfl⟩
      rw [HN.out, HA.out]
      go_wp2_with fail
      refine (pday15_any Y m d _ ((HT.out).keptB HB.out).mons).mono ?_
      rintro e w1 ⟨rfl, rfl⟩
      rw [HO.out, HBB.out]
      go_wp2_with fail
      refine (alive15_any _ ((HT.out).keptB HB.out)).mono ?_
      rintro e c1 ⟨rfl, hc1⟩
      replace HB := Lib.hid (bstep HB.out hc1)
      clear hc1
      go_wp2
      try rw [Exit.noGoto_ret]
      go_ret
      exact ⟨rfl, HB.out⟩
    · have HA := Lib.hid ha
      have HBB := Lib.hid hb
      obtain ⟨N, HN⟩ : ∃ z_, Hid (dayV y m d = z_) := ⟨_, Lib.hid rfl⟩
      obtain ⟨O, HO⟩ : ∃ z_, Hid (dayV Y m d = z_) := ⟨_, Lib.hid rfl⟩
      clear ha hb
      go_enter Tryd.func10, Tryd.ntmps10
      go_wp2_with fail
      refine (pday15_any y m d _ ((HT.out).keptB HB.out).mons).mono ?_
      rintro e w1 ⟨rfl, rfl⟩
      rw [HN.out, HA.out]
      go_wp2_with fail
      refine (pday15_any Y m d _ ((HT.out).keptB HB.out).mons).mono ?_
      rintro e w1 ⟨rfl, rfl⟩
      rw [HO.out, HBB.out]
      go_wp2_with fail
      refine (alive15_any _ ((HT.out).keptB HB.out)).mono ?_
      rintro e c1 ⟨rfl, hc1⟩
      replace HB := Lib.hid (bstep HB.out hc1)
      clear hc1
      go_wp2
      try rw [Exit.noGoto_ret]
      go_ret
      exact ⟨rfl, HB.out⟩

end Go.Proofs.YtfdadebddfhpdaaDoor
