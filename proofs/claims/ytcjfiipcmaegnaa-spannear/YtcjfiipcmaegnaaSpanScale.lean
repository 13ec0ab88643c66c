/- The walks over span's Scale and its closure. -/
import Derived.Test.YtcjfiipcmaegnaaSpanOps2
import Derived.Test.YtcjfiipcmaegnaaSpanHull
namespace Go.Proofs.Ytcjfiipcmaegnaa
open Go.RowKit
set_option linter.unusedVariables false

theorem rateB_iff {q : Int} : rateB q = true ↔ 0 ≤ q ∧ q ≤ 1000000000 := by unfold rateB; simp

set_option maxHeartbeats 1000000 in
theorem around_any (m q : Int) (g : Nat) (w : World) (hm : In64 m) (hq : rateB q = true) (kq : w.cell? ⟨g, 0, none⟩ = some (.int .i64 q)) :
    Calls Try.prog 58 #[.int .i64 m, .pointer (some ⟨g, 0, none⟩)] w fun e w' => e = .returned (.agg #[.int .i64 (aroundS q m).lo, .int .i64 (aroundS q m).hi, .bool (aroundS q m).k]) ∧ Below w.heap.size w w' := by
  obtain ⟨q0, q1⟩ := rateB_iff.1 hq
  obtain ⟨X1, HX1⟩ : ∃ X, Hid (roundS m (1000000000 - q) = X) := ⟨_, Lib.hid rfl⟩
  obtain ⟨X2, HX2⟩ : ∃ X, Hid (roundS m (1000000000 + q) = X) := ⟨_, Lib.hid rfl⟩
  obtain ⟨X, HX⟩ : ∃ X, Hid (hullS X1 X2 = X) := ⟨_, Lib.hid rfl⟩
  have H := Lib.hid (show aroundS q m = X by unfold aroundS; rw [HX1.out, HX2.out, HX.out])
  have C1 := Lib.hid (fun w => rounded_any m (1000000000 - q) w hm)
  have C2 := Lib.hid (fun w => rounded_any m (1000000000 + q) w hm)
  have C3 := Lib.hid (hull3_any X1 X2)
  rw [HX1.out] at C1
  rw [HX2.out] at C2
  rw [HX.out] at C3
  have wr1 : IntKind.i64.wrap (1000000000 - q) = 1000000000 - q := by rw [IntKind.wrap_i64]; omega
  have wr2 : IntKind.i64.wrap (1000000000 + q) = 1000000000 + q := by rw [IntKind.wrap_i64]; omega
  have lt := World.block_lt_of_cell? w _ kq
  change g < w.heap.size at lt
  have ne0 : ¬ (g = w.heap.size) := by omega
  have ne1 : ¬ (w.heap.size = g) := by omega
  have le2 : w.heap.size ≤ w.heap.size := Nat.le_refl _
  have KZ := Lib.hid (Holds.fresh w 24 #[.int .i64 0, .int .i64 0, .bool false] rfl)
  have HB := Lib.hid (bnew w (.cells #[.int .i64 0, .int .i64 0, .bool false] 24))
  have kq' := keepc HB.out kq
  clear hq kq lt hm
  go_enter Try.func58, Try.ntmps58
  go_wp2
  generalize w.alloc (.cells #[.int .i64 0, .int .i64 0, .bool false] 24) = W0 at *
  go_region_held3 (fun v => v.cell? ⟨g, 0, none⟩ = some (.int .i64 q))
    (first | (with_reducible exact keepc (by assumption) (by assumption)) | go_keep)
    (first
      | (go_at_call 59; (with_reducible refine (C1.out _).mono ?_); rintro e w1 ⟨rfl, hb1⟩; have Q1 : Hid (Below W0.heap.size W0 w1) := Lib.hid (bstep (bdrew (Below.refl _ _)) hb1))
      | (go_at_call 59; (with_reducible refine (C2.out _).mono ?_); rintro e w2 ⟨rfl, hb2⟩; have Q2 : Hid (Below W0.heap.size W0 w2) := Lib.hid (bstep Q1.out hb2))
      | (go_at_call 19; (with_reducible refine (C3.out _).mono ?_); rintro e w3 ⟨rfl, hb3⟩; have Q3 : Hid (Below W0.heap.size W0 w3) := Lib.hid (bstep Q2.out hb3)
         have KZ3 := Lib.hid ((KZ.out).kept Q3.out (KZ.out).inside)
         have k0 := (KZ3.out).reads (i := 0) rfl; have k1 := (KZ3.out).reads (i := 1) rfl; have k2 := (KZ3.out).reads (i := 2) rfl
         have f0 := (KZ3.out).open_ 0; have f1 := (KZ3.out).open_ 1; have f2 := (KZ3.out).open_ 2))
  all_goals
    go_wp2
    refine bodyPost_ret (v := .agg #[.int .i64 (X).lo, .int .i64 (X).hi, .bool (X).k]) (by simp [results, Try.results58, go_sem, k0, k1, k2]) rfl ⟨?_, ?_⟩
    · exact ret_sp H.out.symm
    · exact ((((HB.out).trans ((Q3.out).mono (HB.out).size)).setCell le2 _).setCell le2 _).setCell le2 _

set_option maxHeartbeats 1000000 in
theorem scale3_any (s : Sp) (q : Int) (w : World) :
    Calls Try.prog 36 #[.agg #[.int .i64 (s).lo, .int .i64 (s).hi, .bool (s).k], .int .i64 q] w fun e w' => e = .returned (.agg #[.int .i64 (scaleS s q).lo, .int .i64 (scaleS s q).hi, .bool (scaleS s q).k]) ∧ Below w.heap.size w w' := by
  have CR := Lib.hid (israte_any q)
  have CS := Lib.hid (bounded_any s)
  have le2 : w.heap.size ≤ w.heap.size + 1 + 1 := by omega
  have K0 := Lib.hid (((Holds.fresh w 24 #[.int .i64 s.lo, .int .i64 s.hi, .bool s.k] rfl).laid (.cells #[.int .i64 q] 3)).laid (.cells #[.int .i64 0, .int .i64 0, .bool false] 24))
  have K1 := Lib.hid ((Holds.fresh (w.alloc (.cells #[.int .i64 s.lo, .int .i64 s.hi, .bool s.k] 24)) 3 #[.int .i64 q] (g := w.heap.size + 1) (by simp)).laid (.cells #[.int .i64 0, .int .i64 0, .bool false] 24))
  have KZ := Lib.hid (Holds.fresh ((w.alloc (.cells #[.int .i64 s.lo, .int .i64 s.hi, .bool s.k] 24)).alloc (.cells #[.int .i64 q] 3)) 24 #[.int .i64 0, .int .i64 0, .bool false] (g := w.heap.size + 1 + 1) (by simp))
  have HB := Lib.hid (bstep (bstep (bnew w (.cells #[.int .i64 s.lo, .int .i64 s.hi, .bool s.k] 24)) (bnew _ (.cells #[.int .i64 q] 3))) (bnew _ (.cells #[.int .i64 0, .int .i64 0, .bool false] 24)))
  cases hr : rateB q
  · have H := Lib.hid (show scaleS s q = unS by unfold scaleS; rw [hr]; rfl)
    rw [hr] at CR
    clear hr
    go_enter Try.func36, Try.ntmps36
    go_wp2_with fail
    refine (CR.out _).mono ?_
    rintro e w1 ⟨rfl, rfl⟩
    go_wp2_with fail
    refine (unknown_any _).mono ?_
    rintro e w1 ⟨rfl, hb1⟩
    replace KZ := Lib.hid ((KZ.out).kept hb1 (KZ.out).inside)
    replace HB := Lib.hid (bstep HB.out hb1)
    clear hb1
    have k0 := (KZ.out).reads (i := 0) rfl; have k1 := (KZ.out).reads (i := 1) rfl; have k2 := (KZ.out).reads (i := 2) rfl
    have f0 := (KZ.out).open_ 0; have f1 := (KZ.out).open_ 1; have f2 := (KZ.out).open_ 2
    go_wp2
    refine bodyPost_ret (v := .agg #[.int .i64 0, .int .i64 0, .bool false]) (by simp [results, Try.results36, go_sem, k0, k1, k2]) rfl ⟨?_, ?_⟩
    · exact (by rw [H.out]; rfl)
    · exact (((HB.out).setCell le2 _).setCell le2 _).setCell le2 _
  · cases hs : bndB s
    · have H := Lib.hid (show scaleS s q = unS by unfold scaleS; rw [hr, hs]; rfl)
      rw [hr] at CR
      rw [hs] at CS
      clear hr hs
      go_enter Try.func36, Try.ntmps36
      go_wp2_with fail
      refine (CR.out _).mono ?_
      rintro e w1 ⟨rfl, rfl⟩
      go_wp2_with fail
      refine (CS.out _).mono ?_
      rintro e w1 ⟨rfl, hb1⟩
      replace KZ := Lib.hid ((KZ.out).kept hb1 (KZ.out).inside)
      replace HB := Lib.hid (bstep HB.out hb1)
      clear hb1
      go_wp2_with fail
      refine (unknown_any _).mono ?_
      rintro e w2 ⟨rfl, hb2⟩
      replace KZ := Lib.hid ((KZ.out).kept hb2 (KZ.out).inside)
      replace HB := Lib.hid (bstep HB.out hb2)
      clear hb2
      have k0 := (KZ.out).reads (i := 0) rfl; have k1 := (KZ.out).reads (i := 1) rfl; have k2 := (KZ.out).reads (i := 2) rfl
      have f0 := (KZ.out).open_ 0; have f1 := (KZ.out).open_ 1; have f2 := (KZ.out).open_ 2
      go_wp2
      refine bodyPost_ret (v := .agg #[.int .i64 0, .int .i64 0, .bool false]) (by simp [results, Try.results36, go_sem, k0, k1, k2]) rfl ⟨?_, ?_⟩
      · exact (by rw [H.out]; rfl)
      · exact (((HB.out).setCell le2 _).setCell le2 _).setCell le2 _
    · obtain ⟨X1, HX1⟩ : ∃ X, Hid (aroundS q s.lo = X) := ⟨_, Lib.hid rfl⟩
      obtain ⟨X2, HX2⟩ : ∃ X, Hid (aroundS q s.hi = X) := ⟨_, Lib.hid rfl⟩
      obtain ⟨X, HX⟩ : ∃ X, Hid (hullS X1 X2 = X) := ⟨_, Lib.hid rfl⟩
      have H := Lib.hid (show scaleS s q = X by unfold scaleS; rw [hr, hs, ← HX.out, ← HX1.out, ← HX2.out]; rfl)
      have hsi : In64 s.lo ∧ In64 s.hi := by
        unfold bndB at hs
        rw [Bool.and_eq_true, bdB_iff] at hs
        unfold In64
        omega
      have C1 := Lib.hid (fun g v => around_any s.lo q g v hsi.1 hr)
      have C2 := Lib.hid (fun g v => around_any s.hi q g v hsi.2 hr)
      have C3 := Lib.hid (hull3_any X1 X2)
      rw [HX1.out] at C1
      rw [HX2.out] at C2
      rw [HX.out] at C3
      rw [hr] at CR
      rw [hs] at CS
      clear hr hs hsi
      have ne0 : ¬ (w.heap.size = w.heap.size + 1 + 1) := by omega
      have ne1 : ¬ (w.heap.size + 1 + 1 = w.heap.size) := by omega
      go_enter Try.func36, Try.ntmps36
      go_wp2_with fail
      refine (CR.out _).mono ?_
      rintro e w1 ⟨rfl, rfl⟩
      go_wp2_with fail
      refine (CS.out _).mono ?_
      rintro e W0 ⟨rfl, hb1⟩
      replace K0 := Lib.hid ((K0.out).kept hb1 (K0.out).inside); replace K1 := Lib.hid ((K1.out).kept hb1 (K1.out).inside); replace KZ := Lib.hid ((KZ.out).kept hb1 (KZ.out).inside)
      replace HB := Lib.hid (bstep HB.out hb1)
      clear hb1
      go_wp2
      have d0 := (K0.out).reads (i := 0) rfl; have d1 := (K0.out).reads (i := 1) rfl; have d2 := (K0.out).reads (i := 2) rfl
      go_region_held3 (fun v => v.cell? ⟨w.heap.size, 0, none⟩ = some (.int .i64 s.lo) ∧ v.cell? ⟨w.heap.size, 1, none⟩ = some (.int .i64 s.hi) ∧ v.cell? ⟨w.heap.size, 2, none⟩ = some (.bool s.k))
        (first | (with_reducible exact keep3 (by assumption) (by assumption)) | go_keep)
        (first
          | (go_at_call 58; (with_reducible refine (C1.out _ _ ?_).mono ?_); (exact (K1.out).drew.reads (i := 0) rfl); rintro e w1 ⟨rfl, hb1⟩; have Q1 : Hid (Below W0.heap.size W0 w1) := Lib.hid (bstep (bdrew (Below.refl _ _)) hb1))
          | (go_at_call 58; (with_reducible refine (C2.out _ _ ?_).mono ?_); (exact ((K1.out).kept Q1.out (K1.out).inside).reads (i := 0) rfl); rintro e w2 ⟨rfl, hb2⟩; have Q2 : Hid (Below W0.heap.size W0 w2) := Lib.hid (bstep Q1.out hb2))
          | (go_at_call 19; (with_reducible refine (C3.out _).mono ?_); rintro e w3 ⟨rfl, hb3⟩; have Q3 : Hid (Below W0.heap.size W0 w3) := Lib.hid (bstep Q2.out hb3)
             have KZ3 := Lib.hid ((KZ.out).kept Q3.out (KZ.out).inside)
             have k0 := (KZ3.out).reads (i := 0) rfl; have k1 := (KZ3.out).reads (i := 1) rfl; have k2 := (KZ3.out).reads (i := 2) rfl
             have f0 := (KZ3.out).open_ 0; have f1 := (KZ3.out).open_ 1; have f2 := (KZ3.out).open_ 2))
      all_goals
        go_wp2
        refine bodyPost_ret (v := .agg #[.int .i64 (X).lo, .int .i64 (X).hi, .bool (X).k]) (by simp [results, Try.results36, go_sem, k0, k1, k2]) rfl ⟨?_, ?_⟩
        · exact ret_sp H.out.symm
        · exact ((((HB.out).trans ((Q3.out).mono (HB.out).size)).setCell le2 _).setCell le2 _).setCell le2 _

end Go.Proofs.Ytcjfiipcmaegnaa
