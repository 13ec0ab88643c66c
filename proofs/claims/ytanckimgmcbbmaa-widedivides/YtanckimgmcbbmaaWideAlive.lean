/- The walk over the laws' own alive(): it is true. -/
import Derived.Test.YtanckimgmcbbmaaWideFloor
namespace Go.Proofs.Ytanckimgmcbbmaa
open Go.RowKit

theorem alive_1 (w : World) : Calls Try.prog 22 #[.int .i64 (-7), .int .i64 1, .int .i64 2] w fun e w' => e = .returned (.tuple #[.int .i64 (-4), .bool true]) ∧ Below w.heap.size w w' :=
  (floor_any (-7) 1 2 w).mono fun _ _ ⟨he, hb⟩ => ⟨he.trans (ret_ib (by decide) (by decide)), hb⟩
theorem alive_2 (w : World) : Calls Try.prog 24 #[.int .i64 (-7), .int .i64 1, .int .i64 2] w fun e w' => e = .returned (.tuple #[.int .i64 (-3), .bool true]) ∧ Below w.heap.size w w' :=
  (ceil_any (-7) 1 2 w (by unfold In64; omega)).mono fun _ _ ⟨he, hb⟩ => ⟨he.trans (ret_ib (by decide) (by decide)), hb⟩
theorem alive_3 (w : World) : Calls Try.prog 22 #[.int .i64 4611686018427387904, .int .i64 4611686018427387904, .int .i64 4611686018427387904] w fun e w' => e = .returned (.tuple #[.int .i64 4611686018427387904, .bool true]) ∧ Below w.heap.size w w' :=
  (floor_any 4611686018427387904 4611686018427387904 4611686018427387904 w).mono fun _ _ ⟨he, hb⟩ => ⟨he.trans (ret_ib (by decide) (by decide)), hb⟩
theorem alive_4 (w : World) : Calls Try.prog 11 #[.int .i64 4611686018427387904, .int .i64 1] w fun e w' => e = .returned (.tuple #[.int .i64 0, .bool false]) ∧ Below w.heap.size w w' :=
  (add_any 4611686018427387904 1 w).mono fun _ _ ⟨he, hb⟩ => ⟨he.trans (ret_ib (by decide) (by decide)), hb⟩
theorem alive_5 (w : World) : Calls Try.prog 18 #[.slice (some ⟨w.heap.size, 0, none⟩) 2 2] (w.alloc (.cells #[.int .i64 0, .int .i64 4611686018427387904] 3)) fun e w' => e = .returned (.bool true) ∧ w.alloc (.cells #[.int .i64 0, .int .i64 4611686018427387904] 3) = w' :=
  (small_2 0 4611686018427387904 w).mono fun _ _ ⟨he, hb⟩ => ⟨he.trans (ret_bool (by decide)), hb⟩
theorem alive_6 (w : World) : Calls Try.prog 20 #[.int .i64 (-5)] w fun e w' => e = .returned (.int .i64 5) ∧ Below w.heap.size w w' :=
  (abs_any (-5) w).mono fun _ _ ⟨he, hb⟩ => ⟨he.trans (ret_int (by decide)), hb⟩

set_option maxHeartbeats 1000000 in
theorem alive_any (w : World) : Calls Try.prog 17 #[] w fun e w' => e = .returned (.bool true) ∧ Below w.heap.size w w' := by
  go_enter Try.func17, Try.ntmps17
  go_wp2_with fail
  refine (alive_1 _).mono ?_
  rintro e w1 ⟨rfl, hb1⟩
  go_wp2_with fail
  refine (alive_2 _).mono ?_
  rintro e w2 ⟨rfl, hb2⟩
  go_wp2_with fail
  refine (alive_3 _).mono ?_
  rintro e w3 ⟨rfl, hb3⟩
  go_wp2_with fail
  refine (alive_4 _).mono ?_
  rintro e w4 ⟨rfl, hb4⟩
  go_wp2_with fail
  refine (alive_5 _).mono ?_
  rintro e w5 ⟨rfl, rfl⟩
  go_wp2_with fail
  refine (alive_6 _).mono ?_
  rintro e w6 ⟨rfl, hb6⟩
  go_wp2
  go_ret
  exact ⟨rfl, bstep (bstep (bstep (bstep (bstep hb1 hb2) hb3) hb4) (bnew _ _)) hb6⟩

end Go.Proofs.Ytanckimgmcbbmaa
