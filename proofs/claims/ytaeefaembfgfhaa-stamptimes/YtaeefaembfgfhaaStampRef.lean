/- The walks over the reference's plain functions of layer 2: Down, Up, Scaled, Less, Right, Of, Nanos. -/
import Derived.Test.YtaeefaembfgfhaaStampPlain
namespace Go.Proofs.Ytaeefaembfgfhaa
open Go.RowKit
set_option linter.unusedVariables false

theorem tdm (n : Int) : 65536 * n.tdiv 65536 + n.tmod 65536 = n ∧ (0 ≤ n → 0 ≤ n.tmod 65536 ∧ n.tmod 65536 < 65536) ∧ (n < 0 → -65536 < n.tmod 65536 ∧ n.tmod 65536 ≤ 0) := by
  refine ⟨Int.mul_tdiv_add_tmod n 65536, fun h => ?_, fun h => ?_⟩
  · rw [Int.tmod_eq_emod_of_nonneg h]; omega
  · obtain ⟨m, rfl⟩ : ∃ m, n = -m := ⟨-n, by omega⟩
    rw [Int.neg_tmod, Int.tmod_eq_emod_of_nonneg (by omega)]; omega
theorem tdiv_down (n : Int) : n / 65536 = if n.tmod 65536 < 0 then n.tdiv 65536 - 1 else n.tdiv 65536 := by
  have := tdm n
  split <;> omega
theorem tdiv_up (n : Int) : upN n = if 0 < n.tmod 65536 then n.tdiv 65536 + 1 else n.tdiv 65536 := by
  have := tdm n
  unfold upN; split <;> omega

set_option maxHeartbeats 400000 in
theorem rdown_any (n : Int) (w : World) (h0 : -9223372036854775808 ≤ n) (h1 : n ≤ 9223372036854775807) :
    Calls Try.prog 27 #[.int .i64 n] w fun e w' => e = .returned (.int .i64 (n / 65536)) ∧ w = w' := by
  have H := Lib.hid (tdiv_down n)
  obtain ⟨q, hq⟩ : ∃ q, n.tdiv 65536 = q := ⟨_, rfl⟩
  obtain ⟨r, hr⟩ : ∃ q, n.tmod 65536 = q := ⟨_, rfl⟩
  have hq0 : -9223372036854775807 ≤ q := by have := tdm n; omega
  have hq1 : q ≤ 9223372036854775806 := by have := tdm n; omega
  rw [hr, hq] at H
  by_cases h : r < 0
  · have H2 := Lib.hid (show n / 65536 = q - 1 by rw [H.out, if_pos h])
    go_enter Try.func27, Try.ntmps27
    go_wp2
    go_ret
    exact ⟨ret_int H2.out.symm, rfl⟩
  · have H2 := Lib.hid (show n / 65536 = q by rw [H.out, if_neg h])
    go_enter Try.func27, Try.ntmps27
    go_wp2
    go_ret
    exact ⟨ret_int H2.out.symm, rfl⟩

set_option maxHeartbeats 400000 in
theorem rup_any (n : Int) (w : World) (h0 : -9223372036854775808 ≤ n) (h1 : n ≤ 9223372036854775807) :
    Calls Try.prog 29 #[.int .i64 n] w fun e w' => e = .returned (.int .i64 (upN n)) ∧ w = w' := by
  have H := Lib.hid (tdiv_up n)
  obtain ⟨q, hq⟩ : ∃ q, n.tdiv 65536 = q := ⟨_, rfl⟩
  obtain ⟨r, hr⟩ : ∃ q, n.tmod 65536 = q := ⟨_, rfl⟩
  have hq0 : -9223372036854775807 ≤ q := by have := tdm n; omega
  have hq1 : q ≤ 9223372036854775806 := by have := tdm n; omega
  rw [hr, hq] at H
  by_cases h : 0 < r
  · have H2 := Lib.hid (show upN n = q + 1 by rw [H.out, if_pos h])
    go_enter Try.func29, Try.ntmps29
    go_wp2
    go_ret
    exact ⟨ret_int H2.out.symm, rfl⟩
  · have H2 := Lib.hid (show upN n = q by rw [H.out, if_neg h])
    go_enter Try.func29, Try.ntmps29
    go_wp2
    go_ret
    exact ⟨ret_int H2.out.symm, rfl⟩

set_option maxHeartbeats 400000 in
theorem rscaled_any (n : Int) (w : World) :
    Calls Try.prog 25 #[.int .i64 n] w fun e w' => e = .returned (.tuple #[.int .i64 (told (scB n) (n * 65536)), .bool (scB n)]) ∧ w = w' := by
  by_cases h1 : n < -140737488355328
  · have H := Lib.hid (show scB n = false by unfold scB; simp; omega)
    go_enter Try.func25, Try.ntmps25
    go_wp2
    go_ret2
    exact ⟨ret_ib (by rw [H.out]; rfl) H.out.symm, rfl⟩
  · by_cases h2 : 140737488355327 < n
    · have H := Lib.hid (show scB n = false by unfold scB; simp; omega)
      go_enter Try.func25, Try.ntmps25
      go_wp2
      go_ret2
      exact ⟨ret_ib (by rw [H.out]; rfl) H.out.symm, rfl⟩
    · have H := Lib.hid (show scB n = true by unfold scB; simp; omega)
      have h1' : -140737488355328 ≤ n := by omega
      have h2' : n ≤ 140737488355327 := by omega
      clear h1 h2
      go_enter Try.func25, Try.ntmps25
      go_wp2
      go_ret2
      exact ⟨ret_ib (by rw [H.out]; rfl) H.out.symm, rfl⟩

set_option maxHeartbeats 400000 in
theorem rless_any (a b c d : Int) (w : World) :
    Calls Try.prog 19 #[.agg #[.int .i64 a, .int .i64 b], .agg #[.int .i64 c, .int .i64 d]] w fun e w' => e = .returned (.bool (lessB a b c d)) ∧ Below w.heap.size w w' := by
  by_cases h2 : a = c
  · subst h2
    have H := Lib.hid (show lessB a b a d = decide (b < d) by unfold lessB; congr 1; simp)
    go_enter Try.func19, Try.ntmps19
    go_wp2
    go_ret
    exact ⟨ret_bool H.out.symm, bstep (bnew _ _) (bnew _ _)⟩
  · have h3 : (a != c) = true := by simp [h2]
    have H := Lib.hid (show lessB a b c d = decide (a < c) by unfold lessB; congr 1; simp; omega)
    clear h2
    go_enter Try.func19, Try.ntmps19
    go_wp2
    go_ret
    exact ⟨ret_bool H.out.symm, bstep (bnew _ _) (bnew _ _)⟩

set_option maxHeartbeats 400000 in
theorem rright_any (a b : Int) (w : World) :
    Calls Try.prog 17 #[.agg #[.int .i64 a, .int .i64 b]] w fun e w' => e = .returned (.bool (rightB a b)) ∧ Below w.heap.size w w' := by
  by_cases h1 : 0 ≤ a
  · by_cases h2 : a ≤ 281474976710655
    · by_cases h3 : 0 ≤ b
      · have H := Lib.hid (show rightB a b = decide (b ≤ 999999999) by unfold rightB; simp [h1, h2, h3])
        go_enter Try.func17, Try.ntmps17
        go_wp2
        go_ret
        exact ⟨ret_bool H.out.symm, bnew _ _⟩
      · have H := Lib.hid (show rightB a b = false by unfold rightB; simp [h3])
        have h3' : decide (0 ≤ b) = false := by simpa using h3
        clear h3
        go_enter Try.func17, Try.ntmps17
        go_wp2
        go_ret
        exact ⟨ret_bool H.out.symm, bnew _ _⟩
    · have H := Lib.hid (show rightB a b = false by unfold rightB; simp [h2])
      have h2' : decide (a ≤ 281474976710655) = false := by simpa using h2
      clear h2
      go_enter Try.func17, Try.ntmps17
      go_wp2
      go_ret
      exact ⟨ret_bool H.out.symm, bnew _ _⟩
  · have H := Lib.hid (show rightB a b = false by unfold rightB; simp [h1])
    have h1' : decide (0 ≤ a) = false := by simpa using h1
    clear h1
    go_enter Try.func17, Try.ntmps17
    go_wp2
    go_ret
    exact ⟨ret_bool H.out.symm, bnew _ _⟩

set_option maxHeartbeats 400000 in
theorem rof_any (n : Int) (w : World) :
    Calls Try.prog 12 #[.int .i64 n] w fun e w' => e = .returned (.tuple #[.agg #[.int .i64 (told (ofB n) (n / 1000000000)), .int .i64 (told (ofB n) (n % 1000000000))], .bool (ofB n)]) ∧ Below w.heap.size w w' := by
  cases hB : ofB n
  · have h : n < 0 ∨ (0 ≤ n ∧ 4611686018427387904 < n) := by
      have : ¬ (0 ≤ n ∧ n ≤ 4611686018427387904) := by rw [← ofB_iff, hB]; simp
      omega
    clear hB
    rcases h with h | ⟨h, hs⟩
    all_goals
      go_enter Try.func12, Try.ntmps12
      go_wp2
      refine bodyPost_ret (v := .tuple #[.agg #[.int .i64 0, .int .i64 0], .bool false]) (by simp [results, Try.results12, go_sem]) rfl ⟨rfl, ?_⟩
      exact bnew _ _
  · obtain ⟨h1, h2⟩ := ofB_iff.1 hB
    have H := Lib.hid (show n - n / 1000000000 * 1000000000 = n % 1000000000 by omega)
    clear hB
    go_enter Try.func12, Try.ntmps12
    go_wp2
    refine bodyPost_ret (v := .tuple #[.agg #[.int .i64 (n / 1000000000), .int .i64 (n - n / 1000000000 * 1000000000)], .bool true]) (by simp [results, Try.results12, go_sem]) rfl ⟨ret_ssb rfl H.out rfl, ?_⟩
    exact bnew _ _

set_option maxHeartbeats 400000 in
theorem rnanos_any (s n : Int) (w : World) :
    Calls Try.prog 14 #[.agg #[.int .i64 s, .int .i64 n]] w fun e w' => e = .returned (.tuple #[.int .i64 (told (nanB s n) (s * 1000000000 + n)), .bool (nanB s n)]) ∧ Below w.heap.size w w' := by
  cases hR : rightB s n
  · have H := Lib.hid (show nanB s n = false by unfold nanB; rw [hR]; rfl)
    have HR := Lib.hid hR
    clear hR
    go_enter Try.func14, Try.ntmps14
    go_wp2_with fail
    refine (rright_any _ _ _).mono ?_
    rintro e w1 ⟨rfl, hb1⟩
    rw [HR.out]
    go_wp2
    go_ret2
    exact ⟨ret_ib (by rw [H.out]; rfl) H.out.symm, bstep (bnew _ _) hb1⟩
  · obtain ⟨⟨h0, h1⟩, h2, h3⟩ := rightB_iff.1 hR
    have HR := Lib.hid hR
    by_cases g1 : 4611686018 < s
    · have H := Lib.hid (show nanB s n = false by unfold nanB; rw [Bool.and_eq_false_iff]; right; simp; omega)
      clear hR
      go_enter Try.func14, Try.ntmps14
      go_wp2_with fail
      refine (rright_any _ _ _).mono ?_
      rintro e w1 ⟨rfl, hb1⟩
      rw [HR.out]
      have k0 := (Holds.fresh w 23 #[.int .i64 s, .int .i64 n] rfl).kept hb1 (by simp)
      have c0 := k0.reads (i := 0) rfl
      have c1 := k0.reads (i := 1) rfl
      clear k0
      go_wp2
      go_ret2
      exact ⟨ret_ib (by rw [H.out]; rfl) H.out.symm, bstep (bnew _ _) hb1⟩
    · by_cases g2 : s = 4611686018
      · subst g2
        by_cases g3 : 427387904 < n
        · have H := Lib.hid (show nanB 4611686018 n = false by unfold nanB; rw [Bool.and_eq_false_iff]; right; simp; omega)
          clear hR g1 h0 h1
          go_enter Try.func14, Try.ntmps14
          go_wp2_with fail
          refine (rright_any _ _ _).mono ?_
          rintro e w1 ⟨rfl, hb1⟩
          rw [HR.out]
          have k0 := (Holds.fresh w 23 #[.int .i64 4611686018, .int .i64 n] rfl).kept hb1 (by simp)
          have c0 := k0.reads (i := 0) rfl
          have c1 := k0.reads (i := 1) rfl
          clear k0
          go_wp2
          go_ret2
          exact ⟨ret_ib (by rw [H.out]; rfl) H.out.symm, bstep (bnew _ _) hb1⟩
        · have H := Lib.hid (show nanB 4611686018 n = true by unfold nanB; rw [hR]; simp; omega)
          clear hR g1 h0 h1
          go_enter Try.func14, Try.ntmps14
          go_wp2_with fail
          refine (rright_any _ _ _).mono ?_
          rintro e w1 ⟨rfl, hb1⟩
          rw [HR.out]
          have k0 := (Holds.fresh w 23 #[.int .i64 4611686018, .int .i64 n] rfl).kept hb1 (by simp)
          have c0 := k0.reads (i := 0) rfl
          have c1 := k0.reads (i := 1) rfl
          clear k0
          go_wp2
          go_ret2
          exact ⟨ret_ib (by rw [H.out, told_true]; rfl) H.out.symm, bstep (bnew _ _) hb1⟩
      · have H := Lib.hid (show nanB s n = true by unfold nanB; rw [hR]; simp; omega)
        have g4 : s ≤ 4611686017 := by omega
        have g5 : (s == 4611686018) = false := by simp [g2]
        clear hR g1 g2
        go_enter Try.func14, Try.ntmps14
        go_wp2_with fail
        refine (rright_any _ _ _).mono ?_
        rintro e w1 ⟨rfl, hb1⟩
        rw [HR.out]
        have k0 := (Holds.fresh w 23 #[.int .i64 s, .int .i64 n] rfl).kept hb1 (by simp)
        have c0 := k0.reads (i := 0) rfl
        have c1 := k0.reads (i := 1) rfl
        clear k0
        go_wp2
        go_ret2
        exact ⟨ret_ib (by rw [H.out, told_true]) H.out.symm, bstep (bnew _ _) hb1⟩

end Go.Proofs.Ytaeefaembfgfhaa
