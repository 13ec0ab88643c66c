/- The walks over the laws of layer 2 that speak of numbers. -/
import Derived.Test.YtaeefaembfgfhaaStampAlive
import Derived.Test.YtaeefaembfgfhaaStampRef
namespace Go.Proofs.Ytaeefaembfgfhaa
open Go.RowKit
set_option linter.unusedVariables false

set_option maxHeartbeats 1000000 in
theorem scales_walk (n : Int) (hn : In64 n) (w : World) :
    Calls Try.prog 5 #[.int .i64 n] w fun e w' => e = .returned (.bool true) ∧ Below w.heap.size w w' := by
  obtain ⟨h0, h1⟩ := hn
  obtain ⟨X, hX⟩ : ∃ X, told (scB n) (n * 65536) = X := ⟨_, rfl⟩
  obtain ⟨B, hB⟩ : ∃ X, scB n = X := ⟨_, rfl⟩
  have H1 := Lib.hid hX
  have H2 := Lib.hid hB
  clear hX hB
  go_enter Try.func5, Try.ntmps5
  go_wp2_with fail
  refine (scaled_any n _ h0 h1).mono ?_
  rintro e w1 ⟨rfl, rfl⟩
  rw [H1.out, H2.out]
  go_wp2_with fail
  refine (rscaled_any n _).mono ?_
  rintro e w1 ⟨rfl, rfl⟩
  rw [H1.out, H2.out]
  go_wp2_with fail
  refine (alive2_any _).mono ?_
  rintro e w1 ⟨rfl, hb1⟩
  go_wp2_with fail
  refine (down_any n _).mono ?_
  rintro e w2 ⟨rfl, rfl⟩
  go_wp2_with fail
  refine (rdown_any n _ h0 h1).mono ?_
  rintro e w2 ⟨rfl, rfl⟩
  go_wp2_with fail
  refine (up_any n _ h0 h1).mono ?_
  rintro e w2 ⟨rfl, rfl⟩
  go_wp2_with fail
  refine (rup_any n _ h0 h1).mono ?_
  rintro e w2 ⟨rfl, rfl⟩
  go_wp2
  go_ret
  exact ⟨by simp, hb1⟩

theorem halves_num (n : Int) : (upN n = n / 65536 ∧ n.tmod 65536 = 0) ∨ (upN n = n / 65536 + 1 ∧ n.tmod 65536 ≠ 0) := by
  have := tdm n
  unfold upN
  omega
theorem low_sc (n : Int) (h0 : -9223372036854775808 ≤ n) (h1 : n ≤ 9223372036854775807) : scB (n / 65536) = true := by
  rw [scB_iff]; omega

set_option maxHeartbeats 1000000 in
theorem halves_walk (n : Int) (hn : In64 n) (w : World) :
    Calls Try.prog 8 #[.int .i64 n] w fun e w' => e = .returned (.bool true) ∧ Below w.heap.size w w' := by
  obtain ⟨h0, h1⟩ := hn
  have HS := Lib.hid (low_sc n h0 h1)
  have hu := halves_num n
  obtain ⟨d, hd⟩ : ∃ d, n / 65536 = d := ⟨_, rfl⟩
  obtain ⟨u, hu'⟩ : ∃ d, upN n = d := ⟨_, rfl⟩
  obtain ⟨m, hm⟩ : ∃ k, d * 65536 = k := ⟨_, rfl⟩
  have hm1 : m ≤ n := by omega
  have hm2 : n - m < 65536 := by omega
  have hd1 : -140737488355328 ≤ d := by omega
  have hd2 : d ≤ 140737488355327 := by omega
  have Hdm := Lib.hid (show m / 65536 = d by omega)
  have Hum := Lib.hid (show upN m = d by unfold upN; omega)
  have hm3 : -9223372036854775808 ≤ m := by omega
  have hm4 : m ≤ 9223372036854775807 := by omega
  have Hm := Lib.hid (show d * 65536 = m by omega)
  have Hd := Lib.hid hd
  have Hu := Lib.hid hu'
  rw [hu', hd] at hu
  rw [hd] at HS
  clear hd hu' hm
  rcases hu with ⟨e1, e2⟩ | ⟨e1, e2⟩
  · obtain rfl : u = d := e1
    have e3 : (n.tmod 65536 == 0) = true := by simp [e2]
    clear e2
    go_enter Try.func8, Try.ntmps8
    go_wp2_with fail
    refine (down_any n _).mono ?_
    rintro e w1 ⟨rfl, rfl⟩
    rw [Hd.out]
    go_wp2_with fail
    refine (up_any n _ h0 h1).mono ?_
    rintro e w1 ⟨rfl, rfl⟩
    rw [Hu.out]
    go_wp2_with fail
    refine (scaled_any u _ (by omega) (by omega)).mono ?_
    rintro e w1 ⟨rfl, rfl⟩
    rw [HS.out, told_true, Hm.out]
    go_wp2_with fail
    refine (alive2_any _).mono ?_
    rintro e w1 ⟨rfl, hb1⟩
    go_wp2_with fail
    refine (down_any m _).mono ?_
    rintro e w2 ⟨rfl, rfl⟩
    rw [Hdm.out]
    go_wp2_with fail
    refine (up_any m _ hm3 hm4).mono ?_
    rintro e w2 ⟨rfl, rfl⟩
    rw [Hum.out]
    go_wp2
    go_ret
    exact ⟨by simp, hb1⟩
  · obtain rfl : u = d + 1 := e1
    have e3 : (n.tmod 65536 == 0) = false := by simp [e2]
    have e4 : (d + 1 == d) = false := by simp; omega
    clear e2
    go_enter Try.func8, Try.ntmps8
    go_wp2_with fail
    refine (down_any n _).mono ?_
    rintro e w1 ⟨rfl, rfl⟩
    rw [Hd.out]
    go_wp2_with fail
    refine (up_any n _ h0 h1).mono ?_
    rintro e w1 ⟨rfl, rfl⟩
    rw [Hu.out]
    go_wp2_with fail
    refine (scaled_any d _ (by omega) (by omega)).mono ?_
    rintro e w1 ⟨rfl, rfl⟩
    rw [HS.out, told_true, Hm.out]
    go_wp2_with fail
    refine (alive2_any _).mono ?_
    rintro e w1 ⟨rfl, hb1⟩
    go_wp2_with fail
    refine (down_any m _).mono ?_
    rintro e w2 ⟨rfl, rfl⟩
    rw [Hdm.out]
    go_wp2_with fail
    refine (up_any m _ hm3 hm4).mono ?_
    rintro e w2 ⟨rfl, rfl⟩
    rw [Hum.out]
    go_wp2
    go_ret
    exact ⟨by simp, hb1⟩

set_option maxHeartbeats 1000000 in
theorem seconds_walk (n more : Int) (w : World) :
    Calls Try.prog 9 #[.int .i64 n, .int .i64 more] w fun e w' => e = .returned (.bool true) ∧ Below w.heap.size w w' := by
  by_cases hr : (0 ≤ n ∧ n ≤ 1152921504606846976) ∧ 0 ≤ more ∧ more ≤ 1073741824
  · obtain ⟨⟨h1, h2⟩, h3, h4⟩ := hr
    obtain ⟨m, hm⟩ : ∃ m, n + more * 1000000000 = m := ⟨_, rfl⟩
    obtain ⟨s, hs⟩ : ∃ m, n / 1000000000 = m := ⟨_, rfl⟩
    obtain ⟨t, ht⟩ : ∃ m, n % 1000000000 = m := ⟨_, rfl⟩
    have H1 := Lib.hid (show ofB n = true by rw [ofB_iff]; omega)
    have H2 := Lib.hid (show ofB m = true by rw [ofB_iff]; omega)
    have H3 := Lib.hid (show m / 1000000000 = s + more by omega)
    have H4 := Lib.hid (show m % 1000000000 = t by omega)
    have hs0 : 0 ≤ s := by omega
    have hs1 : s ≤ 1152921505 := by omega
    have Hm := Lib.hid hm
    have Hs := Lib.hid hs
    have Ht := Lib.hid ht
    clear hm hs ht
    go_enter Try.func9, Try.ntmps9
    go_wp2_with fail
    refine (of_any n _).mono ?_
    rintro e w1 ⟨rfl, hb1⟩
    rw [H1.out, told_true, told_true, Hs.out, Ht.out]
    go_wp2_with fail
    rw [Hm.out]
    refine (of_any m _).mono ?_
    rintro e w2 ⟨rfl, hb2⟩
    rw [H2.out, told_true, told_true, H3.out, H4.out]
    have K0 := Lib.hid (((Holds.fresh w1 24 #[.int .i64 s, .int .i64 t] rfl).kept hb2 (by simp)).laid (.cells #[.int .i64 (s + more), .int .i64 t] 24))
    have K1 := Lib.hid (Holds.fresh w2 24 #[.int .i64 (s + more), .int .i64 t] rfl)
    have HB := Lib.hid (bstep (bstep (bstep hb1 (bnew _ _)) hb2) (bnew w2 (.cells #[.int .i64 (s + more), .int .i64 t] 24)))
    clear hb1 hb2
    go_wp2_with fail
    refine (alive2_any _).mono ?_
    rintro e w3 ⟨rfl, hb3⟩
    have k0 := (K0.out).kept hb3 (K0.out).inside
    have k1 := (K1.out).kept hb3 (K1.out).inside
    have c0 := k0.reads (i := 0) rfl
    have c1 := k0.reads (i := 1) rfl
    have d0 := k1.reads (i := 0) rfl
    have d1 := k1.reads (i := 1) rfl
    have HB3 := Lib.hid (bstep HB.out hb3)
    clear k0 k1 hb3
    go_wp2
    go_ret
    exact ⟨by simp, HB3.out⟩
  · have h : n < 0 ∨ (0 ≤ n ∧ 1152921504606846976 < n) ∨ (0 ≤ n ∧ n ≤ 1152921504606846976 ∧ more < 0) ∨ (0 ≤ n ∧ n ≤ 1152921504606846976 ∧ 0 ≤ more ∧ 1073741824 < more) := by omega
    clear hr
    rcases h with h | ⟨h, g⟩ | ⟨h, g, k⟩ | ⟨h, g, k, l⟩
    all_goals
      go_enter Try.func9, Try.ntmps9
      go_wp2_with fail
      refine (alive2_any _).mono ?_
      rintro e w1 ⟨rfl, hb1⟩
      go_wp2
      go_ret
      exact ⟨rfl, hb1⟩

end Go.Proofs.Ytaeefaembfgfhaa
