/- The walk over CivilMonths. -/
import Derived.Test.YtfdadebddfhpdaaDoorCivilAlive
import Derived.Test.YtfdadebddfhpdaaDoorCivilLaid
import Derived.Deep.DeepCutAuto
import Derived.Deep.LoopGhost
namespace Go.Proofs.YtfdadebddfhpdaaDoor
set_option maxRecDepth 100000
open Go.RowKit
set_option linter.unusedVariables false
set_option linter.unusedSimpArgs false

set_option maxHeartbeats 4000000 in
theorem months15 (y m : Int) (w : World) (hT : Tabs w) :
    Calls Tryd.prog 9 #[.int .i64 y, .int .i64 m] w fun e w' => e = .returned (.bool true) ∧ Below w.heap.size w w' := by
  have HB := Lib.hid (Below.refl w.heap.size w)
  have HT := Lib.hid hT
  clear hT
  obtain ⟨M1, HM1⟩ : ∃ x, IntKind.i64.wrap (m + 1) = x := ⟨_, rfl⟩
  rcases Bool.eq_false_or_eq_true (dayB y m 1) with ha | ha
  · rcases Bool.eq_false_or_eq_true (dayB y M1 1) with hb | hb
    · obtain ⟨_, ⟨m0, m1⟩, _, _⟩ := dayB_iff.1 ha
      have e0 : M1 = m + 1 := by rw [← HM1, IntKind.wrap_i64] <;> omega
      have hb' := hb
      rw [e0] at hb'
      obtain ⟨e1, e2, e3⟩ := month_next ha hb'
      have h2 := dayN_bd ha
      have f1 : dayV y m 1 = dayN y m 1 := by unfold dayV; rw [ha]; rfl
      have f2 : dayV y M1 1 = dayN y M1 1 := by unfold dayV; rw [hb]; rfl
      rw [e0] at f2
      rw [← f1] at e1 h2
      rw [← f2, ← e0] at e1
      obtain ⟨N, hN⟩ : ∃ x, dayV y m 1 = x := ⟨_, rfl⟩
      obtain ⟨L, hL⟩ : ∃ x, monN y m = x := ⟨_, rfl⟩
      rw [hN] at e1 h2
      rw [hL] at e1 e2 e3
      have HN := Lib.hid hN
      have HE := Lib.hid e1
      have HL := Lib.hid hL
      have q0 : IntKind.i64.wrap (N + L - N) = L := by rw [IntKind.wrap_i64] <;> omega
      have q1 : N + L - N = L := by omega
      have q5 : wrap64 L = L := by unfold wrap64; omega
      have q2 : decide (L ≥ 28) = true := decide_eq_true e2
      have q3 : decide (28 ≤ L) = true := decide_eq_true e2
      have q4 : decide (L ≤ 31) = true := decide_eq_true e3
      have HA := Lib.hid ha
      have HBB := Lib.hid hb
      clear ha hb hb' e0 e1 e2 e3 h2 f1 f2 hN hL m0 m1
      go_enter Tryd.func9, Tryd.ntmps9
      go_wp2_with fail
      refine (pday15_any y m 1 _ ((HT.out).keptB HB.out).mons).mono ?_
      rintro e w1 ⟨rfl, rfl⟩
      rw [HN.out, HA.out]
      go_wp2_with fail
      refine (pday15_any y M1 1 _ ((HT.out).keptB HB.out).mons).mono ?_
      rintro e w1 ⟨rfl, rfl⟩
      rw [HE.out, HBB.out]
      go_wp2_with fail
      refine (alive15_any _ ((HT.out).keptB HB.out)).mono ?_
      rintro e c1 ⟨rfl, hc1⟩
      replace HB := Lib.hid (bstep HB.out hc1)
      clear hc1
      go_wp2_with fail
      refine (plong15_any y m _ ((HT.out).keptB HB.out).mons).mono ?_
      rintro e w1 ⟨rfl, rfl⟩
      rw [HL.out]
      go_wp2
      try rw [Exit.noGoto_ret]
      go_ret
      exact ⟨rfl, HB.out⟩
    · obtain ⟨N, HN⟩ : ∃ z_, Hid (dayV y m 1 = z_) := ⟨_, Lib.hid rfl⟩
      obtain ⟨O, HO⟩ : ∃ z_, Hid (dayV y M1 1 = z_) := ⟨_, Lib.hid rfl⟩
      have HA := Lib.hid ha
      have HBB := Lib.hid hb
      clear ha hb
      go_enter Tryd.func9, Tryd.ntmps9
      go_wp2_with fail
      refine (pday15_any y m 1 _ ((HT.out).keptB HB.out).mons).mono ?_
      rintro e w1 ⟨rfl, rfl⟩
      rw [HN.out, HA.out]
      go_wp2_with fail
      refine (pday15_any y M1 1 _ ((HT.out).keptB HB.out).mons).mono ?_
      rintro e w1 ⟨rfl, rfl⟩
      rw [HO.out, HBB.out]
      go_wp2_with fail
      refine (alive15_any _ ((HT.out).keptB HB.out)).mono ?_
      rintro e c1 ⟨rfl, hc1⟩
      replace HB := Lib.hid (bstep HB.out hc1)
      clear hc1
      go_wp2
      try rw [Exit.noGoto_ret]
      go_ret
      exact ⟨rfl, HB.out⟩
  · rcases Bool.eq_false_or_eq_true (dayB y M1 1) with hb | hb
    · obtain ⟨N, HN⟩ : ∃ z_, Hid (dayV y m 1 = z_) := ⟨_, Lib.hid rfl⟩
      obtain ⟨O, HO⟩ : ∃ z_, Hid (dayV y M1 1 = z_) := ⟨_, Lib.hid rfl⟩
      have HA := Lib.hid ha
      have HBB := Lib.hid hb
      clear ha hb
      go_enter Tryd.func9, Tryd.ntmps9
      go_wp2_with fail
      refine (pday15_any y m 1 _ ((HT.out).keptB HB.out).mons).mono ?_
      rintro e w1 ⟨rfl, rfl⟩
      rw [HN.out, HA.out]
      go_wp2_with fail
      refine (pday15_any y M1 1 _ ((HT.out).keptB HB.out).mons).mono ?_
      rintro e w1 ⟨rfl, rfl⟩
      rw [HO.out, HBB.out]
      go_wp2_with fail
      refine (alive15_any _ ((HT.out).keptB HB.out)).mono ?_
      rintro e c1 ⟨rfl, hc1⟩
      replace HB := Lib.hid (bstep HB.out hc1)
      clear hc1
      go_wp2
      try rw [Exit.noGoto_ret]
      go_ret
      exact ⟨rfl, HB.out⟩
    · obtain ⟨N, HN⟩ : ∃ z_, Hid (dayV y m 1 = z_) := ⟨_, Lib.hid rfl⟩
      obtain ⟨O, HO⟩ : ∃ z_, Hid (dayV y M1 1 = z_) := ⟨_, Lib.hid rfl⟩
      have HA := Lib.hid ha
      have HBB := Lib.hid hb
      clear ha hb
      go_enter Tryd.func9, Tryd.ntmps9
      go_wp2_with fail
      refine (pday15_any y m 1 _ ((HT.out).keptB HB.out).mons).mono ?_
      rintro e w1 ⟨rfl, rfl⟩
      rw [HN.out, HA.out]
      go_wp2_with fail
      refine (pday15_any y M1 1 _ ((HT.out).keptB HB.out).mons).mono ?_
      rintro e w1 ⟨rfl, rfl⟩
      rw [HO.out, HBB.out]
      go_wp2_with fail
      refine (alive15_any _ ((HT.out).keptB HB.out)).mono ?_
      rintro e c1 ⟨rfl, hc1⟩
      replace HB := Lib.hid (bstep HB.out hc1)
      clear hc1
      go_wp2
      try rw [Exit.noGoto_ret]
      go_ret
      exact ⟨rfl, HB.out⟩

end Go.Proofs.YtfdadebddfhpdaaDoor
