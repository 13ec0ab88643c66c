/- The walk over CivilYears. -/
import Derived.Test.YtfdadebddfhpdaaDoorCivilAlive
import Derived.Test.YtfdadebddfhpdaaDoorCivilLaid
import Derived.Deep.DeepCutAuto
import Derived.Deep.LoopGhost
namespace Go.Proofs.YtfdadebddfhpdaaDoor
set_option maxRecDepth 100000
open Go.RowKit
set_option linter.unusedVariables false
set_option linter.unusedSimpArgs false

set_option maxHeartbeats 4000000 in
theorem years15 (y : Int) (w : World) (hT : Tabs w) :
    Calls Tryd.prog 8 #[.int .i64 y] w fun e w' => e = .returned (.bool true) ∧ Below w.heap.size w w' := by
  have HB := Lib.hid (Below.refl w.heap.size w)
  have HT := Lib.hid hT
  clear hT
  by_cases h0 : y < 1970
  · have d0 : decide (y < 1970) = true := decide_eq_true h0
    clear h0
    go_enter Tryd.func8, Tryd.ntmps8
    go_wp2_with fail
    refine (alive15_any _ ((HT.out).keptB HB.out)).mono ?_
    rintro e c1 ⟨rfl, hc1⟩
    replace HB := Lib.hid (bstep HB.out hc1)
    clear hc1
    go_wp2
    try rw [Exit.noGoto_ret]
    go_ret
    exact ⟨rfl, HB.out⟩
  · by_cases h1 : 9998 < y
    · have d0 : decide (y < 1970) = false := decide_eq_false h0
      have d1 : decide (9998 < y) = true := decide_eq_true h1
      have d2 : decide (y > 9998) = true := d1
      clear h0 h1
      go_enter Tryd.func8, Tryd.ntmps8
      go_wp2_with fail
      refine (alive15_any _ ((HT.out).keptB HB.out)).mono ?_
      rintro e c1 ⟨rfl, hc1⟩
      replace HB := Lib.hid (bstep HB.out hc1)
      clear hc1
      go_wp2
      try rw [Exit.noGoto_ret]
      go_ret
      exact ⟨rfl, HB.out⟩
    · have d0 : decide (y < 1970) = false := decide_eq_false h0
      have d1 : decide (9998 < y) = false := decide_eq_false h1
      have d2 : decide (y > 9998) = false := d1
      obtain ⟨ha, hb, hn⟩ := year_next (y := y) (by omega) (by omega)
      have hy1 : IntKind.i64.wrap (y + 1) = y + 1 := by rw [IntKind.wrap_i64] <;> omega
      obtain ⟨Y, HY⟩ : ∃ x, y + 1 = x := ⟨_, rfl⟩
      rw [HY] at hb hn hy1
      have h2 := dayN_bd ha
      have f1 : dayV y 1 1 = dayN y 1 1 := by unfold dayV; rw [ha]; rfl
      have f2 : dayV Y 1 1 = dayN Y 1 1 := by unfold dayV; rw [hb]; rfl
      rw [← f1] at hn h2
      rw [← f2] at hn
      obtain ⟨N, hN⟩ : ∃ x, dayV y 1 1 = x := ⟨_, rfl⟩
      obtain ⟨L, hL⟩ : ∃ x, yearN y = x := ⟨_, rfl⟩
      rw [hN] at hn h2
      rw [hL] at hn
      have hs := monsN_year y
      rw [hL] at hs
      obtain ⟨P, hP⟩ : ∃ x, leapB y = x := ⟨_, rfl⟩
      have hl : L = if P then 366 else 365 := by rw [← hL, ← hP]; rfl
      have g1 : (L == 366) = P := by rw [hl]; cases P <;> rfl
      have g2 : (L == 365) = !P := by rw [hl]; cases P <;> rfl
      have hl2 : 365 ≤ L ∧ L ≤ 366 := by rw [hl]; cases P <;> decide
      have q0 : IntKind.i64.wrap (N + L - N) = L := by rw [IntKind.wrap_i64] <;> omega
      have q1 : N + L - N = L := by omega
      have q2 : wrap64 L = L := by unfold wrap64; omega
      have HQ2 := Lib.hid q2
      have HN := Lib.hid hN
      have HE := Lib.hid hn
      have HP := Lib.hid hP
      have HS := Lib.hid hs
      have HG1 := Lib.hid g1
      have HG2 := Lib.hid g2
      have HQ0 := Lib.hid q0
      have HQ1 := Lib.hid q1
      have HA := Lib.hid ha
      have HBB := Lib.hid hb
      have HY1 := Lib.hid hy1
      clear h0 h1 ha hb hn h2 f1 f2 hN hL hs hP hl hl2 g1 g2 q0 q1 q2 hy1
      go_enter Tryd.func8, Tryd.ntmps8
      go_wp2
      go_loopg [4, 3] 12 (fun gh i n v => ∃ (j : Nat), j + gh = 12 ∧ i = .int .i64 (j + 1) ∧ n = .int .i64 (monsN y j) ∧ Hid (Below w.heap.size w v))
      case atStart => exact ⟨0, by omega, rfl, rfl, HB⟩
      case round =>
        clear HB
        obtain ⟨j, hj, rfl, rfl, HB⟩ := hrel
        cases gk with
        | zero =>
          obtain rfl : j = 12 := by omega
          rw [HS.out]
          have hd : decide ((((12 : Nat) : Int) + 1) ≤ 12) = false := by decide
          have g1 := HG1.out
          have g2 := HG2.out
          have q0 := HQ0.out
          have q1 := HQ1.out
          have q2 := HQ2.out
          have hy1 := HY1.out
          go_wp2_with fail
          refine (pday15_any y 1 1 _ ((HT.out).keptB HB.out).mons).mono ?_
          rintro e w1 ⟨rfl, rfl⟩
          rw [HN.out, HA.out]
          go_wp2_with fail
          refine (pday15_any Y 1 1 _ ((HT.out).keptB HB.out).mons).mono ?_
          rintro e w1 ⟨rfl, rfl⟩
          rw [HE.out, HBB.out]
          go_wp2_with fail
          refine (alive15_any _ ((HT.out).keptB HB.out)).mono ?_
          rintro e c1 ⟨rfl, hc1⟩
          replace HB := Lib.hid (bstep HB.out hc1)
          clear hc1
          go_wp2_with fail
          refine (pleap15_any y _).mono ?_
          rintro e w1 ⟨rfl, rfl⟩
          rw [HP.out]
          go_wp2_with fail
          refine (pleap15_any y _).mono ?_
          rintro e w1 ⟨rfl, rfl⟩
          rw [HP.out]
          go_wp2
          try rw [Exit.noGoto_ret]
          go_ret
          exact ⟨rfl, HB.out⟩
        | succ g1 =>
          have hlt : j < 12 := by omega
          have hd : decide ((j : Int) + 1 ≤ 12) = true := decide_eq_true (by omega)
          have b0 := monsN_nn y j
          have b1 := monsN_le y j
          have b2 := monN_bd y ((j : Int) + 1)
          have hk : monsN y (j + 1) = monsN y j + monN y ((j : Int) + 1) := rfl
          obtain ⟨A, hA⟩ : ∃ x, monsN y j = x := ⟨_, rfl⟩
          obtain ⟨C, hC⟩ : ∃ x, monN y ((j : Int) + 1) = x := ⟨_, rfl⟩
          rw [hA] at b0 b1 hk ⊢
          rw [hC] at b2 hk
          have HC := Lib.hid hC
          have hw1 : IntKind.i64.wrap (A + C) = A + C := by rw [IntKind.wrap_i64] <;> omega
          have hw2 : IntKind.i64.wrap ((j : Int) + 1 + 1) = (j : Int) + 1 + 1 := by rw [IntKind.wrap_i64] <;> omega
          have HK := Lib.hid hk
          have HJ := Lib.hid hj
          clear hC hA b0 b1 b2 hlt hk hj
          go_wp2_with fail
          refine (plong15_any y ((j : Int) + 1) _ ((HT.out).keptB HB.out).mons).mono ?_
          rintro e w1 ⟨rfl, rfl⟩
          rw [HC.out]
          go_wp2
          go_roundg g1
          case measure => have := HJ.out; omega
          case rel => exact ⟨j + 1, by have := HJ.out; omega, by rw [Int.natCast_add]; rfl, by rw [HK.out], HB⟩

end Go.Proofs.YtfdadebddfhpdaaDoor
