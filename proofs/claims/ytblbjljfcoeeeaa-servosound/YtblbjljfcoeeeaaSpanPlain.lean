/- The walks over span's plain functions: Unknown, Right, bounded, told, Of, Has, Width, isRate. -/
import Derived.Test.YtblbjljfcoeeeaaWideAll
import Derived.Test.YtblbjljfcoeeeaaSpanMath
import Derived.Test.YtblbjljfcoeeeaaKeep
import Derived.Deep.RegionHeld3
import Derived.RegionTactic
namespace Go.Proofs.Ytblbjljfcoeeeaa
set_option maxRecDepth 100000
open Go.RowKit
set_option linter.unusedVariables false

theorem eql_span (a b : Int) (c : Bool) (a' b' : Int) (c' : Bool) (w : World) : (binOp .eql 38 (.agg #[.int .i64 a, .int .i64 b, .bool c]) (.agg #[.int .i64 a', .int .i64 b', .bool c'])).run Try.prog w = .ok (.bool (eqS a b c a' b' c')) w := by
  rw [run_eql_struct, run_equalIn_agg w 9999 _ _ _ (by kernel_rfl) (by kernel_rfl)]
  unfold eqS
  cases h1 : (a == a') <;> cases h2 : (b == b') <;> cases h3 : (c == c') <;> go_simp

set_option maxHeartbeats 400000 in
theorem unknown_any (w : World) :
    Calls Try.prog 27 #[] w fun e w' => e = .returned (.agg #[.int .i64 0, .int .i64 0, .bool false]) ∧ Below w.heap.size w w' := by
  go_enter Try.func27, Try.ntmps27
  go_wp2
  refine bodyPost_ret (v := .agg #[.int .i64 0, .int .i64 0, .bool false]) (by simp [results, Try.results27, go_sem]) rfl ⟨rfl, ?_⟩
  exact bnew _ _

set_option maxHeartbeats 400000 in
theorem right3_any (s : Sp) (w : World) :
    Calls Try.prog 62 #[.agg #[.int .i64 (s).lo, .int .i64 (s).hi, .bool (s).k]] w fun e w' => e = .returned (.bool (rgtB s)) ∧ Below w.heap.size w w' := by
  cases hk : s.k
  · have H := Lib.hid (rgtB_un hk)
    rw [hk] at H
    have heq := eql_span
    clear hk
    go_enter Try.func62, Try.ntmps62
    go_wp2
    have c0 := (Holds.fresh w 38 #[.int .i64 s.lo, .int .i64 s.hi, .bool false] rfl).reads (i := 0) rfl
    have c1 := (Holds.fresh w 38 #[.int .i64 s.lo, .int .i64 s.hi, .bool false] rfl).reads (i := 1) rfl
    have c2 := (Holds.fresh w 38 #[.int .i64 s.lo, .int .i64 s.hi, .bool false] rfl).reads (i := 2) rfl
    go_region_held3 (fun v => v.cell? ⟨w.heap.size, 0, none⟩ = some (.int .i64 s.lo) ∧ v.cell? ⟨w.heap.size, 1, none⟩ = some (.int .i64 s.hi) ∧ v.cell? ⟨w.heap.size, 2, none⟩ = some (.bool false))
      (first | (exact keep3 (by assumption) (by assumption)) | go_keep)
      (first
        | (go_at_call 27; (with_reducible refine (unknown_any _).mono ?_); rintro e v1 ⟨rfl, hv1⟩))
    have HB := Lib.hid (bstep (bdrew (bnew _ _)) hv1)
    clear hv1 c0 c1 c2
    go_wp2
    go_ret
    exact ⟨ret_bool H.out.symm, HB.out⟩
  · cases hs : (smallB s.lo && smallB s.hi)
    · have H := Lib.hid (show rgtB s = false by unfold rgtB bdB; rw [hk, hs]; rfl)
      go_enter Try.func62, Try.ntmps62
      go_wp2_with (go_at_call 65; refine (small_2g _ _ _ _ (by simp)).mono ?_; rintro e w' ⟨rfl, rfl⟩)
      go_ret
      exact ⟨ret_bool H.out.symm, bstep (bnew _ _) (bnew _ _)⟩
    · have H := Lib.hid (show rgtB s = decide (s.lo ≤ s.hi) by unfold rgtB bdB; rw [hk, hs]; rfl)
      go_enter Try.func62, Try.ntmps62
      go_wp2_with (go_at_call 65; refine (small_2g _ _ _ _ (by simp)).mono ?_; rintro e w' ⟨rfl, rfl⟩)
      go_ret
      exact ⟨ret_bool H.out.symm, bstep (bnew _ _) (bnew _ _)⟩

set_option maxHeartbeats 400000 in
theorem bounded_any (s : Sp) (w : World) :
    Calls Try.prog 44 #[.agg #[.int .i64 (s).lo, .int .i64 (s).hi, .bool (s).k]] w fun e w' => e = .returned (.bool (bndB s)) ∧ Below w.heap.size w w' := by
  cases hk : s.k
  · have H := Lib.hid (show bndB s = false by unfold bndB; rw [hk]; rfl)
    clear hk
    go_enter Try.func44, Try.ntmps44
    go_wp2
    go_ret
    exact ⟨ret_bool H.out.symm, bnew _ _⟩
  · have H := Lib.hid (show bndB s = rgtB s by unfold bndB rgtB; rw [hk]; rfl)
    have C := Lib.hid (right3_any s)
    rw [hk] at C
    clear hk
    go_enter Try.func44, Try.ntmps44
    go_wp2_with fail
    refine (C.out _).mono ?_
    rintro e w1 ⟨rfl, hb1⟩
    go_wp2
    go_ret
    exact ⟨ret_bool H.out.symm, bstep (bnew _ _) hb1⟩

set_option maxHeartbeats 400000 in
theorem told3_any (s : Sp) (w : World) :
    Calls Try.prog 43 #[.agg #[.int .i64 (s).lo, .int .i64 (s).hi, .bool (s).k]] w fun e w' => e = .returned (.agg #[.int .i64 (tldS s).lo, .int .i64 (tldS s).hi, .bool (tldS s).k]) ∧ Below w.heap.size w w' := by
  have C := Lib.hid (bounded_any s)
  cases hB : bndB s
  · have H := Lib.hid (tldS_no hB)
    rw [hB] at C
    clear hB
    go_enter Try.func43, Try.ntmps43
    go_wp2_with fail
    refine (C.out _).mono ?_
    rintro e w1 ⟨rfl, hb1⟩
    have K := Lib.hid ((Holds.fresh (w.alloc (.cells #[.int .i64 s.lo, .int .i64 s.hi, .bool s.k] 38)) 38 #[.int .i64 0, .int .i64 0, .bool false] (g := w.heap.size + 1) (by simp)).kept hb1 (by simp))
    have HB := Lib.hid (bstep (bstep (bnew w _) (bnew _ _)) hb1)
    clear hb1
    go_wp2_with fail
    refine (unknown_any _).mono ?_
    rintro e w2 ⟨rfl, hb2⟩
    replace K := Lib.hid ((K.out).kept hb2 (K.out).inside)
    replace HB := Lib.hid (bstep HB.out hb2)
    clear hb2
    have k0 := (K.out).reads (i := 0) rfl; have k1 := (K.out).reads (i := 1) rfl; have k2 := (K.out).reads (i := 2) rfl
    have f0 := (K.out).open_ 0; have f1 := (K.out).open_ 1; have f2 := (K.out).open_ 2
    go_wp2
    refine bodyPost_ret (v := .agg #[.int .i64 0, .int .i64 0, .bool false]) (by simp [results, Try.results43, go_sem, k0, k1, k2]) rfl ⟨?_, ?_⟩
    · exact ret_sp H.out.symm
    · exact (((HB.out).setCell (by simp) _).setCell (by simp) _).setCell (by simp) _
  · have H := Lib.hid (tldS_of hB)
    rw [hB] at C
    clear hB
    go_enter Try.func43, Try.ntmps43
    go_wp2_with fail
    refine (C.out _).mono ?_
    rintro e w1 ⟨rfl, hb1⟩
    have L := Lib.hid (((Holds.fresh w 38 #[.int .i64 s.lo, .int .i64 s.hi, .bool s.k] rfl).laid (.cells #[.int .i64 0, .int .i64 0, .bool false] 38)).kept hb1 (by simp; omega))
    have K := Lib.hid ((Holds.fresh (w.alloc (.cells #[.int .i64 s.lo, .int .i64 s.hi, .bool s.k] 38)) 38 #[.int .i64 0, .int .i64 0, .bool false] (g := w.heap.size + 1) (by simp)).kept hb1 (by simp))
    have HB := Lib.hid (bstep (bstep (bnew w _) (bnew _ _)) hb1)
    clear hb1
    have l0 := (L.out).reads (i := 0) rfl; have l1 := (L.out).reads (i := 1) rfl; have l2 := (L.out).reads (i := 2) rfl
    have k0 := (K.out).reads (i := 0) rfl; have k1 := (K.out).reads (i := 1) rfl; have k2 := (K.out).reads (i := 2) rfl
    have f0 := (K.out).open_ 0; have f1 := (K.out).open_ 1; have f2 := (K.out).open_ 2
    go_wp2
    refine bodyPost_ret (v := .agg #[.int .i64 (s).lo, .int .i64 (s).hi, .bool (s).k]) (by simp [results, Try.results43, go_sem, k0, k1, k2]) rfl ⟨?_, ?_⟩
    · exact ret_sp H.out.symm
    · exact (((HB.out).setCell (by simp) _).setCell (by simp) _).setCell (by simp) _

set_option maxHeartbeats 400000 in
theorem of3_any (a b : Int) (w : World) :
    Calls Try.prog 21 #[.int .i64 a, .int .i64 b] w fun e w' => e = .returned (.agg #[.int .i64 (ofS a b).lo, .int .i64 (ofS a b).hi, .bool (ofS a b).k]) ∧ Below w.heap.size w w' := by
  obtain ⟨X, HX⟩ : ∃ X, Hid (tldS ⟨a, b, true⟩ = X) := ⟨_, Lib.hid rfl⟩
  have C := Lib.hid (told3_any ⟨a, b, true⟩)
  rw [HX.out] at C
  go_enter Try.func21, Try.ntmps21
  go_wp2_with fail
  refine (C.out _).mono ?_
  rintro e w1 ⟨rfl, hb1⟩
  have K := Lib.hid ((Holds.fresh w 38 #[.int .i64 0, .int .i64 0, .bool false] rfl).kept hb1 (by simp))
  have HB := Lib.hid (bstep (bnew w _) hb1)
  clear hb1
  have k0 := (K.out).reads (i := 0) rfl; have k1 := (K.out).reads (i := 1) rfl; have k2 := (K.out).reads (i := 2) rfl
  have f0 := (K.out).open_ 0; have f1 := (K.out).open_ 1; have f2 := (K.out).open_ 2
  go_wp2
  refine bodyPost_ret (v := .agg #[.int .i64 (X).lo, .int .i64 (X).hi, .bool (X).k]) (by simp [results, Try.results21, go_sem, k0, k1, k2]) rfl ⟨?_, ?_⟩
  · exact ret_sp HX.out.symm
  · exact (((HB.out).setCell (by simp) _).setCell (by simp) _).setCell (by simp) _

set_option maxHeartbeats 400000 in
theorem has3_any (s : Sp) (n : Int) (w : World) :
    Calls Try.prog 22 #[.agg #[.int .i64 (s).lo, .int .i64 (s).hi, .bool (s).k], .int .i64 n] w fun e w' => e = .returned (.bool (hasS s n)) ∧ Below w.heap.size w w' := by
  have C := Lib.hid (bounded_any s)
  cases hB : bndB s
  · have H := Lib.hid (show hasS s n = true by unfold hasS; rw [hB]; rfl)
    rw [hB] at C
    clear hB
    go_enter Try.func22, Try.ntmps22
    go_wp2_with fail
    refine (C.out _).mono ?_
    rintro e w1 ⟨rfl, hb1⟩
    go_wp2
    go_ret
    exact ⟨ret_bool H.out.symm, bstep (bnew _ _) hb1⟩
  · rw [hB] at C
    by_cases h1 : s.lo ≤ n
    · have H := Lib.hid (show hasS s n = decide (n ≤ s.hi) by unfold hasS; rw [hB]; simp [h1])
      clear hB
      go_enter Try.func22, Try.ntmps22
      go_wp2_with fail
      refine (C.out _).mono ?_
      rintro e w1 ⟨rfl, hb1⟩
      have L := Lib.hid ((Holds.fresh w 38 #[.int .i64 s.lo, .int .i64 s.hi, .bool s.k] rfl).kept hb1 (by simp))
      have l0 := (L.out).reads (i := 0) rfl; have l1 := (L.out).reads (i := 1) rfl; have l2 := (L.out).reads (i := 2) rfl
      go_wp2
      go_ret
      exact ⟨ret_bool H.out.symm, bstep (bnew _ _) hb1⟩
    · have H := Lib.hid (show hasS s n = false by unfold hasS; rw [hB]; simp [h1])
      clear hB
      have h2 : decide (s.lo ≤ n) = false := by simpa using h1
      go_enter Try.func22, Try.ntmps22
      go_wp2_with fail
      refine (C.out _).mono ?_
      rintro e w1 ⟨rfl, hb1⟩
      have L := Lib.hid ((Holds.fresh w 38 #[.int .i64 s.lo, .int .i64 s.hi, .bool s.k] rfl).kept hb1 (by simp))
      have l0 := (L.out).reads (i := 0) rfl; have l1 := (L.out).reads (i := 1) rfl; have l2 := (L.out).reads (i := 2) rfl
      go_wp2
      go_ret
      exact ⟨ret_bool H.out.symm, bstep (bnew _ _) hb1⟩

set_option maxHeartbeats 400000 in
theorem width3_any (s : Sp) (w : World) :
    Calls Try.prog 29 #[.agg #[.int .i64 (s).lo, .int .i64 (s).hi, .bool (s).k]] w fun e w' => e = .returned (.tuple #[.int .i64 (told (widB s) (s.hi - s.lo)), .bool (widB s)]) ∧ Below w.heap.size w w' := by
  have C := Lib.hid (bounded_any s)
  cases hB : bndB s
  · have H := Lib.hid (show widB s = false by unfold widB; rw [hB]; rfl)
    rw [hB] at C
    clear hB
    go_enter Try.func29, Try.ntmps29
    go_wp2_with fail
    refine (C.out _).mono ?_
    rintro e w1 ⟨rfl, hb1⟩
    go_wp2
    go_ret2
    exact ⟨ret_ib (by rw [H.out]; rfl) H.out.symm, bstep (bnew _ _) hb1⟩
  · have H := Lib.hid (show widB s = subB s.hi s.lo by unfold widB; rw [hB]; rfl)
    rw [hB] at C
    clear hB
    go_enter Try.func29, Try.ntmps29
    go_wp2_with fail
    refine (C.out _).mono ?_
    rintro e w1 ⟨rfl, hb1⟩
    have L := Lib.hid ((Holds.fresh w 38 #[.int .i64 s.lo, .int .i64 s.hi, .bool s.k] rfl).kept hb1 (by simp))
    have l0 := (L.out).reads (i := 0) rfl; have l1 := (L.out).reads (i := 1) rfl; have l2 := (L.out).reads (i := 2) rfl
    go_wp2_with fail
    refine (sub_any _ _ _).mono ?_
    rintro e w2 ⟨rfl, hb2⟩
    go_wp2
    go_ret2
    exact ⟨ret_ib (by rw [H.out]) H.out.symm, bstep (bstep (bnew _ _) hb1) hb2⟩

set_option maxHeartbeats 400000 in
theorem israte_any (q : Int) (w : World) :
    Calls Try.prog 50 #[.int .i64 q] w fun e w' => e = .returned (.bool (rateB q)) ∧ w = w' := by
  by_cases h1 : 0 ≤ q
  · have H := Lib.hid (show rateB q = decide (q ≤ 1000000000) by unfold rateB; simp [h1])
    go_enter Try.func50, Try.ntmps50
    go_wp2
    go_ret
    exact ⟨ret_bool H.out.symm, rfl⟩
  · have H := Lib.hid (show rateB q = false by unfold rateB; simp [h1])
    have h2 : decide (0 ≤ q) = false := by simpa using h1
    go_enter Try.func50, Try.ntmps50
    go_wp2
    go_ret
    exact ⟨ret_bool H.out.symm, rfl⟩

end Go.Proofs.Ytblbjljfcoeeeaa
