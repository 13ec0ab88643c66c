/- The walks over the laws WideReckons and WideDivides: wide's answers are the reference's. -/
import Derived.Test.YtanckimgmcbbmaaRefAdd
import Derived.Test.YtanckimgmcbbmaaWideLaws
namespace Go.Proofs.Ytanckimgmcbbmaa
open Go.RowKit

set_option maxHeartbeats 1000000 in
theorem divides_walk (a b c : Int) (ha : In64 a) (w : World) :
    Calls Try.prog 4 #[.int .i64 a, .int .i64 b, .int .i64 c] w fun e w' => e = .returned (.bool true) ∧ Below w.heap.size w w' := by
  have HA := Lib.hid ha
  clear ha
  obtain ⟨X, hX⟩ : ∃ X, told (floorB a b c) (a * b / c) = X := ⟨_, rfl⟩
  obtain ⟨B, hB⟩ : ∃ X, floorB a b c = X := ⟨_, rfl⟩
  obtain ⟨Y, hY⟩ : ∃ X, told (ceilB a b c) (ceilN a b c) = X := ⟨_, rfl⟩
  obtain ⟨D, hD⟩ : ∃ X, ceilB a b c = X := ⟨_, rfl⟩
  obtain ⟨Z, hZ⟩ : ∃ X, clipS a b c = X := ⟨_, rfl⟩
  have H1 := Lib.hid hX
  have H2 := Lib.hid hB
  have H3 := Lib.hid hY
  have H4 := Lib.hid hD
  have H5 := Lib.hid hZ
  clear hX hB hY hD hZ
  go_enter Try.func4, Try.ntmps4
  go_wp2_with fail
  refine (floor_any a b c _).mono ?_
  rintro e w1 ⟨rfl, hb1⟩
  rw [H1.out, H2.out]
  go_wp2_with fail
  refine (rfloor_any a b c _).mono ?_
  rintro e w2 ⟨rfl, hb2⟩
  rw [H1.out, H2.out]
  go_wp2_with fail
  refine (ceil_any a b c _ HA.out).mono ?_
  rintro e w3 ⟨rfl, hb3⟩
  rw [H3.out, H4.out]
  go_wp2_with fail
  refine (rceil_any a b c _ HA.out).mono ?_
  rintro e w4 ⟨rfl, hb4⟩
  rw [H3.out, H4.out]
  go_wp2_with fail
  refine (alive_any _).mono ?_
  rintro e w5 ⟨rfl, hb5⟩
  go_wp2_with fail
  refine (clip_any a b c _).mono ?_
  rintro e w6 ⟨rfl, rfl⟩
  rw [H5.out]
  go_wp2_with fail
  refine (rclip_any a b c _).mono ?_
  rintro e w7 ⟨rfl, rfl⟩
  rw [H5.out]
  go_wp2
  go_ret
  exact ⟨by simp, bstep (bstep (bstep (bstep hb1 hb2) hb3) hb4) hb5⟩

set_option maxHeartbeats 1000000 in
theorem reckons_walk (a b : Int) (w : World) :
    Calls Try.prog 3 #[.int .i64 a, .int .i64 b] w fun e w' => e = .returned (.bool true) ∧ Below w.heap.size w w' := by
  obtain ⟨X, hX⟩ : ∃ X, told (addB a b) (a + b) = X := ⟨_, rfl⟩
  obtain ⟨B, hB⟩ : ∃ X, addB a b = X := ⟨_, rfl⟩
  obtain ⟨Y, hY⟩ : ∃ X, told (subB a b) (a - b) = X := ⟨_, rfl⟩
  obtain ⟨D, hD⟩ : ∃ X, subB a b = X := ⟨_, rfl⟩
  obtain ⟨Z, hZ⟩ : ∃ X, told (floorB a b 1) (a * b) = X := ⟨_, rfl⟩
  obtain ⟨E, hE⟩ : ∃ X, floorB a b 1 = X := ⟨_, rfl⟩
  obtain ⟨G, hG⟩ : ∃ X, absS a = X := ⟨_, rfl⟩
  obtain ⟨S, hS⟩ : ∃ X, smallB a = X := ⟨_, rfl⟩
  obtain ⟨T, hT⟩ : ∃ X, smallB b = X := ⟨_, rfl⟩
  have H1 := Lib.hid hX
  have H2 := Lib.hid hB
  have H3 := Lib.hid hY
  have H4 := Lib.hid hD
  have H5 := Lib.hid hZ
  have H6 := Lib.hid hE
  have H7 := Lib.hid hG
  have H8 := Lib.hid hS
  have H9 := Lib.hid hT
  clear hX hB hY hD hZ hE hG hS hT
  cases S
  all_goals
    go_enter Try.func3, Try.ntmps3
    go_wp2_with fail
    refine (add_any a b _).mono ?_
    rintro e w1 ⟨rfl, hb1⟩
    rw [H1.out, H2.out]
    go_wp2_with fail
    refine (radd_any a b _).mono ?_
    rintro e w2 ⟨rfl, hb2⟩
    rw [H1.out, H2.out]
    go_wp2_with fail
    refine (sub_any a b _).mono ?_
    rintro e w3 ⟨rfl, hb3⟩
    rw [H3.out, H4.out]
    go_wp2_with fail
    refine (rsub_any a b _).mono ?_
    rintro e w4 ⟨rfl, hb4⟩
    rw [H3.out, H4.out]
    go_wp2_with fail
    refine (mul_any a b _).mono ?_
    rintro e w5 ⟨rfl, hb5⟩
    rw [H5.out, H6.out]
    go_wp2_with fail
    refine (rmul_any a b _).mono ?_
    rintro e w6 ⟨rfl, hb6⟩
    rw [H5.out, H6.out]
    go_wp2_with fail
    refine (alive_any _).mono ?_
    rintro e w7 ⟨rfl, hb7⟩
    go_wp2_with fail
    refine (small_2 a b _).mono ?_
    rintro e w8 ⟨rfl, rfl⟩
    rw [H8.out, H9.out]
    go_wp2_with fail
    refine (rsmall_any a _).mono ?_
    rintro e w9 ⟨rfl, rfl⟩
    rw [H8.out]
    go_wp2_with fail
  · refine (abs_any a _).mono ?_
    rintro e w10 ⟨rfl, hb10⟩
    rw [H7.out]
    go_wp2_with fail
    refine (rabs_any a _).mono ?_
    rintro e w11 ⟨rfl, rfl⟩
    rw [H7.out]
    go_wp2
    go_ret
    exact ⟨by simp, bstep (bstep (bstep (bstep (bstep (bstep (bstep (bstep hb1 hb2) hb3) hb4) hb5) hb6) hb7) (bnew _ _)) hb10⟩
  · refine (rsmall_any b _).mono ?_
    rintro e w9 ⟨rfl, rfl⟩
    rw [H9.out]
    go_wp2_with fail
    refine (abs_any a _).mono ?_
    rintro e w10 ⟨rfl, hb10⟩
    rw [H7.out]
    go_wp2_with fail
    refine (rabs_any a _).mono ?_
    rintro e w11 ⟨rfl, rfl⟩
    rw [H7.out]
    go_wp2
    go_ret
    exact ⟨by simp, bstep (bstep (bstep (bstep (bstep (bstep (bstep (bstep hb1 hb2) hb3) hb4) hb5) hb6) hb7) (bnew _ _)) hb10⟩

end Go.Proofs.Ytanckimgmcbbmaa
