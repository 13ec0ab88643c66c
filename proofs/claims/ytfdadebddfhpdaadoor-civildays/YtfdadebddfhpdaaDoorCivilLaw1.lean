/- The walk over CivilDays. -/
import Derived.Test.YtfdadebddfhpdaaDoorCivilAlive
import Derived.Test.YtfdadebddfhpdaaDoorCivilLaid
import Derived.Deep.DeepCutAuto
import Derived.Deep.LoopGhost
namespace Go.Proofs.YtfdadebddfhpdaaDoor
set_option maxRecDepth 100000
open Go.RowKit
set_option linter.unusedVariables false
set_option linter.unusedSimpArgs false

set_option maxHeartbeats 4000000 in
theorem days15 (y m d : Int) (w : World) (hT : Tabs w) (h1 : d ≤ 9223372036854775807) :
    Calls Tryd.prog 3 #[.int .i64 y, .int .i64 m, .int .i64 d] w fun e w' => e = .returned (.bool true) ∧ Below w.heap.size w w' := by
  have HB := Lib.hid (Below.refl w.heap.size w)
  have HT := Lib.hid hT
  clear hT
  obtain ⟨l, b, c1, c2, _, _⟩ := date_ex d h1
  have C1 := Lib.hid c1
  have C2 := Lib.hid c2
  clear c1 c2
  obtain ⟨N, HN⟩ : ∃ z_, Hid (dayV y m d = z_) := ⟨_, Lib.hid rfl⟩
  obtain ⟨B, HBB⟩ : ∃ x, Hid (dayB y m d = x) := ⟨_, Lib.hid rfl⟩
  obtain ⟨P, HP⟩ : ∃ z_, Hid (leapB y = z_) := ⟨_, Lib.hid rfl⟩
  obtain ⟨M, HM⟩ : ∃ z_, Hid (monN y m = z_) := ⟨_, Lib.hid rfl⟩
  go_enter Tryd.func3, Tryd.ntmps3
  go_wp2_with fail
  refine (pday15_any y m d _ ((HT.out).keptB HB.out).mons).mono ?_
  rintro e w1 ⟨rfl, rfl⟩
  rw [HN.out, HBB.out]
  go_wp2_with fail
  refine (rday15_any y m d _).mono ?_
  rintro e w1 ⟨rfl, rfl⟩
  rw [HN.out, HBB.out]
  go_wp2_with fail
  refine (C1.out _ ((HT.out).keptB HB.out).mons).mono ?_
  rintro e w1 ⟨rfl, rfl⟩
  go_wp2_with fail
  refine (C2.out _).mono ?_
  rintro e c1 ⟨rfl, hc1⟩
  replace HB := Lib.hid (bstep HB.out hc1)
  clear hc1
  go_upto_region 5 with (first | (refine big_fill rfl 27 _ _ rfl gK15 (lbA l) rfl rfl K15.out (by kernel_rfl) (by kernel_rfl) (by kernel_rfl) ?_; intro vK151 nK15 htK15; replace K15 := Lib.hid nK15; replace HB := Lib.hid (btouch HB.out htK15 LK15.out); clear nK15 htK15; try simp only [Act.put, List.setIfInBounds_toArray, List.set_cons_zero, List.set_cons_succ]) | (refine big_alloc rfl 27 rfl (lbA zLb) (by kernel_rfl) ?_; intro gK15 wK15 hlK15 nK15 hbK15; have K15 := Lib.hid nK15; have LK15 := Lib.hid (Nat.le_trans (HB.out).size hlK15); replace HB := Lib.hid (bstep HB.out hbK15); clear hlK15 nK15 hbK15; try simp only [Act.put, List.setIfInBounds_toArray, List.set_cons_zero, List.set_cons_succ]))
  go_wp2_with fail
  refine (alive15_any _ ((HT.out).keptB HB.out)).mono ?_
  rintro e c2 ⟨rfl, hc2⟩
  replace K15 := Lib.hid ((K15.out).keptB hc2)
  replace HB := Lib.hid (bstep HB.out hc2)
  clear hc2
  have x0 := (K15.out).reads (i := 0) (x := .int .i64 l.y) rfl
  have x1 := (K15.out).reads (i := 1) (x := .int .i64 l.m) rfl
  have x2 := (K15.out).reads (i := 2) (x := .int .i64 l.d) rfl
  have x3 := (K15.out).reads (i := 3) (x := .int .i64 l.hh) rfl
  have x4 := (K15.out).reads (i := 4) (x := .int .i64 l.mi) rfl
  have x5 := (K15.out).reads (i := 5) (x := .int .i64 l.se) rfl
  go_wp2_with fail
  refine (pleap15_any y _).mono ?_
  rintro e w1 ⟨rfl, rfl⟩
  rw [HP.out]
  go_wp2_with fail
  refine (rleap15_any y _).mono ?_
  rintro e w1 ⟨rfl, rfl⟩
  rw [HP.out]
  go_wp2_with fail
  refine (plong15_any y m _ ((HT.out).keptB HB.out).mons).mono ?_
  rintro e w1 ⟨rfl, rfl⟩
  rw [HM.out]
  go_wp2_with fail
  refine (rlong15_any y m _).mono ?_
  rintro e w1 ⟨rfl, rfl⟩
  rw [HM.out]
  go_wp2
  try rw [Exit.noGoto_ret]
  go_ret
  exact ⟨rfl, HB.out⟩

end Go.Proofs.YtfdadebddfhpdaaDoor
