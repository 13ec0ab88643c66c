/- The walks over stamp's plain functions: Down, Up, Scaled, Less, Right, Of, Nanos. -/
import Derived.Test.YtaeefaembfgfhaaWideFloor
import Derived.Test.YtaeefaembfgfhaaStampMath
namespace Go.Proofs.Ytaeefaembfgfhaa
open Go.RowKit
set_option linter.unusedVariables false

set_option maxHeartbeats 400000 in
theorem down_any (n : Int) (w : World) :
    Calls Try.prog 26 #[.int .i64 n] w fun e w' => e = .returned (.int .i64 (n / 65536)) ∧ w = w' := by
  go_enter Try.func26, Try.ntmps26
  go_wp2
  go_ret
  exact ⟨rfl, rfl⟩

set_option maxHeartbeats 400000 in
theorem up_any (n : Int) (w : World) (h0 : -9223372036854775808 ≤ n) (h1 : n ≤ 9223372036854775807) :
    Calls Try.prog 28 #[.int .i64 n] w fun e w' => e = .returned (.int .i64 (upN n)) ∧ w = w' := by
  by_cases hm : n / 65536 * 65536 = n
  · have hm' : (n / 65536 * 65536 != n) = false := by simp [hm]
    have H := Lib.hid (show upN n = n / 65536 by unfold upN; omega)
    clear hm
    go_enter Try.func28, Try.ntmps28
    go_wp2_with fail
    refine (down_any n _).mono ?_
    rintro e w' ⟨rfl, rfl⟩
    go_wp2
    go_ret
    exact ⟨ret_int H.out.symm, rfl⟩
  · have hm' : (n / 65536 * 65536 != n) = true := by simp [hm]
    have H := Lib.hid (show upN n = n / 65536 + 1 by unfold upN; omega)
    clear hm
    go_enter Try.func28, Try.ntmps28
    go_wp2_with fail
    refine (down_any n _).mono ?_
    rintro e w' ⟨rfl, rfl⟩
    go_wp2
    go_ret
    exact ⟨ret_int H.out.symm, rfl⟩

theorem scaled_num (n : Int) (h0 : -9223372036854775808 ≤ n) (h1 : n ≤ 9223372036854775807) :
    (wrap64 (n * 65536) / 65536 = n ∧ scB n = true ∧ wrap64 (n * 65536) = n * 65536) ∨ (wrap64 (n * 65536) / 65536 ≠ n ∧ scB n = false) := by
  cases h : scB n
  · right
    refine ⟨?_, rfl⟩
    have : ¬ (-140737488355328 ≤ n ∧ n ≤ 140737488355327) := by rw [← scB_iff, h]; simp
    unfold wrap64; omega
  · left
    have := scB_iff.1 h
    exact ⟨by unfold wrap64; omega, rfl, by unfold wrap64; omega⟩

set_option maxHeartbeats 400000 in
theorem scaled_any (n : Int) (w : World) (h0 : -9223372036854775808 ≤ n) (h1 : n ≤ 9223372036854775807) :
    Calls Try.prog 24 #[.int .i64 n] w fun e w' => e = .returned (.tuple #[.int .i64 (told (scB n) (n * 65536)), .bool (scB n)]) ∧ w = w' := by
  rcases scaled_num n h0 h1 with ⟨e1, e2, e3⟩ | ⟨e1, e2⟩
  · have H1 := Lib.hid e1
    have H2 := Lib.hid e2
    have H3 := Lib.hid e3
    clear e1 e2 e3 h0 h1
    go_enter Try.func24, Try.ntmps24
    go_wp2_with fail
    refine (down_any _ _).mono ?_
    rintro e w' ⟨rfl, rfl⟩
    rw [H1.out, H3.out]
    go_wp2
    go_ret2
    exact ⟨ret_ib (by rw [H2.out]; rfl) H2.out.symm, rfl⟩
  · obtain ⟨x, hx⟩ : ∃ x, wrap64 (n * 65536) / 65536 = x := ⟨_, rfl⟩
    rw [hx] at e1
    have H1 := Lib.hid hx
    have H2 := Lib.hid e2
    have e1' : (x != n) = true := by simp [e1]
    clear e1 e2 hx h0 h1
    go_enter Try.func24, Try.ntmps24
    go_wp2_with fail
    refine (down_any _ _).mono ?_
    rintro e w' ⟨rfl, rfl⟩
    rw [H1.out]
    go_wp2
    go_ret2
    exact ⟨ret_ib (by rw [H2.out]; rfl) H2.out.symm, rfl⟩

set_option maxHeartbeats 400000 in
theorem less_any (a b c d : Int) (w : World) :
    Calls Try.prog 18 #[.agg #[.int .i64 a, .int .i64 b], .agg #[.int .i64 c, .int .i64 d]] w fun e w' => e = .returned (.bool (lessB a b c d)) ∧ Below w.heap.size w w' := by
  by_cases h1 : a < c
  · have H := Lib.hid (show lessB a b c d = true by rw [lessB_iff]; omega)
    go_enter Try.func18, Try.ntmps18
    go_wp2
    go_ret
    exact ⟨ret_bool H.out.symm, bstep (bnew _ _) (bnew _ _)⟩
  · by_cases h2 : a = c
    · subst h2
      have H := Lib.hid (show lessB a b a d = decide (b < d) by unfold lessB; congr 1; simp)
      clear h1
      go_enter Try.func18, Try.ntmps18
      go_wp2
      go_ret
      exact ⟨ret_bool H.out.symm, bstep (bnew _ _) (bnew _ _)⟩
    · have h3 : (a == c) = false := by simp [h2]
      have H := Lib.hid (show lessB a b c d = false by unfold lessB; simp; omega)
      clear h2
      have h4 : decide (a < c) = false := by simpa using h1
      go_enter Try.func18, Try.ntmps18
      go_wp2
      go_ret
      exact ⟨ret_bool H.out.symm, bstep (bnew _ _) (bnew _ _)⟩

/-- two stamps are the same -/
def sameB (a b c d : Int) : Bool := (a == c) && (b == d)
theorem sameB_iff {a b c d : Int} : sameB a b c d = true ↔ a = c ∧ b = d := by unfold sameB; simp
theorem eql_stamp (a b c d : Int) (w : World) : (binOp .eql 24 (.agg #[.int .i64 a, .int .i64 b]) (.agg #[.int .i64 c, .int .i64 d])).run Try.prog w = .ok (.bool (sameB a b c d)) w := by
  rw [run_eql_struct, run_equalIn_agg w 9999 _ _ _ (by kernel_rfl) (by kernel_rfl)]
  unfold sameB
  cases h1 : (a == c) <;> cases h2 : (b == d) <;> go_simp

set_option maxHeartbeats 400000 in
theorem right_any (a b : Int) (w : World) :
    Calls Try.prog 16 #[.agg #[.int .i64 a, .int .i64 b]] w fun e w' => e = .returned (.bool (rightB a b)) ∧ Below w.heap.size w w' := by
  have heq := eql_stamp
  have H := Lib.hid (show sameB a b (clipS a 0 281474976710655) (clipS b 0 999999999) = rightB a b by
    rw [Bool.eq_iff_iff, sameB_iff]; exact rightB_clip a b)
  go_enter Try.func16, Try.ntmps16
  go_wp2
  go_quiet ((go_at_call 33; exact quiet_same (clip_any _ _ _ _)))
  go_wp2
  go_ret
  exact ⟨ret_bool H.out, bdrawn (bnew _ _) _⟩

set_option maxHeartbeats 400000 in
theorem of_any (n : Int) (w : World) :
    Calls Try.prog 11 #[.int .i64 n] w fun e w' => e = .returned (.tuple #[.agg #[.int .i64 (told (ofB n) (n / 1000000000)), .int .i64 (told (ofB n) (n % 1000000000))], .bool (ofB n)]) ∧ Below w.heap.size w w' := by
  cases hB : ofB n
  · have h : n < 0 ∨ (0 ≤ n ∧ smallB n = false) := by
      have : ¬ (0 ≤ n ∧ n ≤ 4611686018427387904) := by rw [← ofB_iff, hB]; simp
      rw [smallB_not]; omega
    clear hB
    rcases h with h | ⟨h, hs⟩
    · go_enter Try.func11, Try.ntmps11
      go_wp2
      refine bodyPost_ret (v := .tuple #[.agg #[.int .i64 0, .int .i64 0], .bool false]) (by simp [results, Try.results11, go_sem]) rfl ⟨rfl, ?_⟩
      exact bnew _ _
    · go_enter Try.func11, Try.ntmps11
      go_wp2_with (go_at_call 30; refine (small_1g _ _ _ (by simp)).mono ?_; rintro e w' ⟨rfl, rfl⟩)
      refine bodyPost_ret (v := .tuple #[.agg #[.int .i64 0, .int .i64 0], .bool false]) (by simp [results, Try.results11, go_sem]) rfl ⟨rfl, ?_⟩
      exact bstep (bnew _ _) (bnew _ _)
  · obtain ⟨h1, h2⟩ := ofB_iff.1 hB
    have hs : smallB n = true := by rw [smallB_iff]; omega
    clear hB
    go_enter Try.func11, Try.ntmps11
    go_wp2_with (go_at_call 30; refine (small_1g _ _ _ (by simp)).mono ?_; rintro e w' ⟨rfl, rfl⟩)
    refine bodyPost_ret (v := .tuple #[.agg #[.int .i64 (n / 1000000000), .int .i64 (n % 1000000000)], .bool true]) (by simp [results, Try.results11, go_sem]) rfl ⟨rfl, ?_⟩
    exact bstep (bnew _ _) (bnew _ _)

theorem mulB_sec {s : Int} (h0 : 0 ≤ s) (h1 : s ≤ 281474976710655) : floorB s 1000000000 1 = decide (s * 1000000000 ≤ 4611686018427387904) := by
  unfold floorB smallB
  rw [Int.ediv_one]
  rw [Bool.eq_iff_iff]
  simp
  omega

set_option maxHeartbeats 400000 in
theorem nanos_any (s n : Int) (w : World) :
    Calls Try.prog 13 #[.agg #[.int .i64 s, .int .i64 n]] w fun e w' => e = .returned (.tuple #[.int .i64 (told (nanB s n) (s * 1000000000 + n)), .bool (nanB s n)]) ∧ Below w.heap.size w w' := by
  cases hR : rightB s n
  · have H := Lib.hid (show nanB s n = false by unfold nanB; rw [hR]; rfl)
    have HR := Lib.hid hR
    clear hR
    go_enter Try.func13, Try.ntmps13
    go_wp2_with fail
    refine (right_any _ _ _).mono ?_
    rintro e w1 ⟨rfl, hb1⟩
    rw [HR.out]
    go_wp2
    go_ret2
    exact ⟨ret_ib (by rw [H.out]; rfl) H.out.symm, bstep (bnew _ _) hb1⟩
  · obtain ⟨⟨h0, h1⟩, h2, h3⟩ := rightB_iff.1 hR
    have HR := Lib.hid hR
    have hM := mulB_sec h0 h1
    obtain ⟨m, hm⟩ : ∃ m, s * 1000000000 = m := ⟨_, rfl⟩
    by_cases hB : s * 1000000000 ≤ 4611686018427387904
    · have HM := Lib.hid (show floorB s 1000000000 1 = true by rw [hM]; simpa using hB)
      have H := Lib.hid (show nanB s n = addB m n by
        rw [← hm]; unfold nanB addB smallB; rw [hR, Bool.eq_iff_iff]; simp; omega)
      have Hm := Lib.hid hm
      clear hM hB hR hm
      go_enter Try.func13, Try.ntmps13
      go_wp2_with fail
      refine (right_any _ _ _).mono ?_
      rintro e w1 ⟨rfl, hb1⟩
      rw [HR.out]
      have k0 := (Holds.fresh w 24 #[.int .i64 s, .int .i64 n] rfl).kept hb1 (by simp)
      have c0 := k0.reads (i := 0) rfl
      have c1 := k0.reads (i := 1) rfl
      have K0 := Lib.hid k0
      clear k0
      go_wp2_with fail
      refine (mul_any _ _ _).mono ?_
      rintro e w2 ⟨rfl, hb2⟩
      rw [HM.out, told_true, Hm.out]
      have k1 := (K0.out).kept hb2 (K0.out).inside
      have c2 := k1.reads (i := 1) rfl
      clear k1
      go_wp2_with fail
      refine (add_any _ _ _).mono ?_
      rintro e w3 ⟨rfl, hb3⟩
      go_wp2
      go_ret2
      exact ⟨ret_ib (by rw [H.out, Hm.out]) H.out.symm, bstep (bstep (bstep (bnew _ _) hb1) hb2) hb3⟩
    · have HM := Lib.hid (show floorB s 1000000000 1 = false by rw [hM]; simpa using hB)
      have H := Lib.hid (show nanB s n = false by
        unfold nanB; rw [Bool.and_eq_false_iff]; right; simp; omega)
      clear hM hB hR hm
      go_enter Try.func13, Try.ntmps13
      go_wp2_with fail
      refine (right_any _ _ _).mono ?_
      rintro e w1 ⟨rfl, hb1⟩
      rw [HR.out]
      have k0 := (Holds.fresh w 24 #[.int .i64 s, .int .i64 n] rfl).kept hb1 (by simp)
      have c0 := k0.reads (i := 0) rfl
      clear k0
      go_wp2_with fail
      refine (mul_any _ _ _).mono ?_
      rintro e w2 ⟨rfl, hb2⟩
      rw [HM.out, told_false]
      go_wp2
      go_ret2
      exact ⟨ret_ib (by rw [H.out]; rfl) H.out.symm, bstep (bstep (bnew _ _) hb1) hb2⟩

end Go.Proofs.Ytaeefaembfgfhaa
