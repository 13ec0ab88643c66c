/- The walk over the laws' own alive. -/
import Derived.Test.YtfdadebddfhpdaaDoorCivilBoth
import Derived.Test.YtfdadebddfhpdaaDoorCivilText3
import Derived.Deep.DeepCutAuto
namespace Go.Proofs.YtfdadebddfhpdaaDoor
set_option maxRecDepth 100000
open Go.RowKit
set_option linter.unusedVariables false
set_option linter.unusedSimpArgs false

def exL : Lb := ⟨2016, 12, 31, 23, 59, 59⟩
theorem ex15_day : dayN 2000 3 1 = 11017 ∧ dayN 2000 2 29 = 11016 ∧ dayN 2016 12 31 * 86400 + 86399 = 1483228799 := by decide +kernel
theorem ex15_days : dayB 2000 3 1 = true ∧ dayB 2000 2 29 = true ∧ dayB 2016 12 31 = true ∧ leapB 2000 = true ∧ monN 1900 2 = 28 := by decide +kernel
theorem ex15_pday (w : World) (hT : Mons w) : Calls Tryd.prog 11 #[.int .i64 2000, .int .i64 3, .int .i64 1] w fun e w' => e = .returned (.tuple #[.int .i64 11017, .bool true]) ∧ w = w' := by
  have h := pday15_yes 2000 3 1 w hT ex15_days.1
  rw [ex15_day.1] at h
  exact h
theorem ex15_pdate (w : World) (hT : Mons w) : Calls Tryd.prog 13 #[.int .i64 11016] w fun e w' => e = .returned (.tuple #[.int .i64 2000, .int .i64 2, .int .i64 29, .bool true]) ∧ w = w' := by
  have h := pdate15_yes 2000 2 29 w hT ex15_days.2.1
  rw [ex15_day.2.1] at h
  exact h
theorem ex15_ofL : ofL 2016 12 31 86399 = exL := by kernel_rfl
theorem ex15_pof (w : World) (hT : Mons w) : Calls Tryd.prog 20 #[.int .i64 1483228799] w fun e w' => e = .returned (.tuple #[.agg (lbA exL), .bool true]) ∧ Below w.heap.size w w' := by
  have h := pof15_yes 2016 12 31 86399 w hT ex15_days.2.2.1 (by decide) (by decide)
  rw [ex15_day.2.2, ex15_ofL] at h
  exact h
theorem ex15_text : strOfNums (txL exL) = { data := #[50, 48, 49, 54, 45, 49, 50, 45, 51, 49, 84, 50, 51, 58, 53, 57, 58, 53, 57] } := by kernel_rfl
theorem ex15_leap (w : World) : Calls Tryd.prog 16 #[.int .i64 2000] w fun e w' => e = .returned (.bool true) ∧ w = w' := by
  have h := pleap15_any 2000 w
  rw [ex15_days.2.2.2.1] at h
  exact h
theorem ex15_long (w : World) (hT : Mons w) : Calls Tryd.prog 18 #[.int .i64 1900, .int .i64 2] w fun e w' => e = .returned (.int .i64 28) ∧ w = w' := by
  have h := plong15_any 1900 2 w hT
  rw [ex15_days.2.2.2.2] at h
  exact h
set_option maxHeartbeats 4000000 in
theorem alive15_any  (w : World) (hT : Tabs w) :
    Calls Tryd.prog 15 #[] w fun e w' => e = .returned (.bool true) ∧ Below w.heap.size w w' := by
  have HB := Lib.hid (Below.refl w.heap.size w)
  have HT := Lib.hid hT
  clear hT
  go_enter Tryd.func15, Tryd.ntmps15
  go_wp2_with fail
  refine (ex15_pday _ ((HT.out).keptB HB.out).mons).mono ?_
  rintro e w1 ⟨rfl, rfl⟩
  go_wp2_with fail
  refine (ex15_pdate _ ((HT.out).keptB HB.out).mons).mono ?_
  rintro e w1 ⟨rfl, rfl⟩
  go_wp2_with fail
  refine (ex15_pof _ ((HT.out).keptB HB.out).mons).mono ?_
  rintro e c1 ⟨rfl, hc1⟩
  replace HB := Lib.hid (bstep HB.out hc1)
  clear hc1
  go_upto_region 4 with (first | (refine big_fill rfl 34 _ _ rfl gK7 (lbA exL) rfl rfl K7.out (by kernel_rfl) (by kernel_rfl) (by kernel_rfl) ?_; intro vK71 nK7 htK7; replace K7 := Lib.hid nK7; replace HB := Lib.hid (btouch HB.out htK7 LK7.out); clear nK7 htK7; try simp only [Act.put, List.setIfInBounds_toArray, List.set_cons_zero, List.set_cons_succ]) | (refine big_alloc rfl 34 rfl (lbA zLb) (by kernel_rfl) ?_; intro gK7 wK7 hlK7 nK7 hbK7; have K7 := Lib.hid nK7; have LK7 := Lib.hid (Nat.le_trans (HB.out).size hlK7); replace HB := Lib.hid (bstep HB.out hbK7); clear hlK7 nK7 hbK7; try simp only [Act.put, List.setIfInBounds_toArray, List.set_cons_zero, List.set_cons_succ]))
  go_wp2_with ((refine big_whole rfl 34 _ rfl gK7 rfl K7.out Tryd.underlying34 rfl (by kernel_rfl) ?_; try simp only [Act.put, List.setIfInBounds_toArray, List.set_cons_zero, List.set_cons_succ]))
  refine (ptext15_any exL _ ((HT.out).keptB HB.out)).mono ?_
  rintro e c1 ⟨rfl, hc1⟩
  replace K7 := Lib.hid ((K7.out).keptB hc1)
  replace HB := Lib.hid (bstep HB.out hc1)
  clear hc1
  rw [ex15_text]
  go_wp2_with fail
  refine (ex15_leap _).mono ?_
  rintro e w1 ⟨rfl, rfl⟩
  go_wp2_with fail
  refine (ex15_long _ ((HT.out).keptB HB.out).mons).mono ?_
  rintro e w1 ⟨rfl, rfl⟩
  go_wp2
  try rw [Exit.noGoto_ret]
  go_ret
  exact ⟨rfl, HB.out⟩

end Go.Proofs.YtfdadebddfhpdaaDoor
