/- The walks over span's Add, Sub, Shift, Wider, Meet, Hull. -/
import Derived.Test.YtblbjljfcoeeeaaSpanMade
namespace Go.Proofs.Ytblbjljfcoeeeaa
set_option maxRecDepth 100000
open Go.RowKit
set_option linter.unusedVariables false

set_option maxHeartbeats 1000000 in
theorem shift3_any (s : Sp) (n : Int) (w : World) :
    Calls Try.prog 26 #[.agg #[.int .i64 (s).lo, .int .i64 (s).hi, .bool (s).k], .int .i64 n] w fun e w' => e = .returned (.agg #[.int .i64 (shiftS s n).lo, .int .i64 (shiftS s n).hi, .bool (shiftS s n).k]) ∧ Below w.heap.size w w' := by
  obtain ⟨X, HX⟩ : ∃ X, Hid (shiftS s n = X) := ⟨_, Lib.hid rfl⟩
  have CB : Hid (∀ g f1 f2 c1 c2 w, Holds w g 27 #[.func (.func 44) #[.agg #[.int .i64 (s).lo, .int .i64 (s).hi, .bool (s).k]] #[]] →
      Makes w f1 c1 (addB s.lo n) (told (addB s.lo n) (s.lo + n)) → Makes w f2 c2 (addB s.hi n) (told (addB s.hi n) (s.hi + n)) →
      Calls Try.prog 46 #[.func (.func f1) #[] c1, .func (.func f2) #[] c2, .slice (some ⟨g, 0, none⟩) 1 1] w fun e w' => e = .returned (.agg #[.int .i64 (X).lo, .int .i64 (X).hi, .bool (X).k]) ∧ Below w.heap.size w w') := by
    rw [← HX.out]
    exact fun g f1 f2 c1 c2 w k m1 m2 => between1_any s g _ _ _ _ f1 f2 c1 c2 w k m1 m2
  have K0 := Lib.hid (Holds.fresh w 38 #[.int .i64 s.lo, .int .i64 s.hi, .bool s.k] (g := w.heap.size) (by simp))
  replace K0 := Lib.hid ((K0.out).laid (.cells #[.int .i64 0, .int .i64 0, .bool false] 38))
  have KZ := Lib.hid (Holds.fresh (w.alloc (.cells #[.int .i64 s.lo, .int .i64 s.hi, .bool s.k] 38)) 38 #[.int .i64 0, .int .i64 0, .bool false] (g := w.heap.size + 1) (by simp))
  have HB := Lib.hid (bstep (bnew w _) (bnew _ _) : Below w.heap.size w ((w.alloc (.cells #[.int .i64 s.lo, .int .i64 s.hi, .bool s.k] 38)).alloc (.cells #[.int .i64 0, .int .i64 0, .bool false] 38)))
  go_enter Try.func26, Try.ntmps26
  go_wp2
  generalize ((w.alloc (.cells #[.int .i64 s.lo, .int .i64 s.hi, .bool s.k] 38)).alloc (.cells #[.int .i64 0, .int .i64 0, .bool false] 38)) = W0 at *
  have le2 : w.heap.size ≤ w.heap.size + 1 := by omega
  have d00 := (K0.out).reads (i := 0) rfl; have d01 := (K0.out).reads (i := 1) rfl; have d02 := (K0.out).reads (i := 2) rfl
  go_region_held3 (fun v => v.cell? ⟨w.heap.size, 0, none⟩ = some (.int .i64 s.lo) ∧ v.cell? ⟨w.heap.size, 1, none⟩ = some (.int .i64 s.hi) ∧ v.cell? ⟨w.heap.size, 2, none⟩ = some (.bool s.k))
    (first | (with_reducible exact keep3 (by assumption) (by assumption)) | (with_reducible exact keep3 (bnew _ _) (by assumption)) | go_keep)
    (first
      | (go_at_call 47; (with_reducible refine (sumb_any s.lo n _).mono ?_); rintro e w1 ⟨f1, c1, rfl, m1, hb1⟩; have Q1 : Hid (Below W0.heap.size W0 w1) := by first | exact Lib.hid (bstep (bdrew (Below.refl _ _)) hb1) | exact Lib.hid (bstep (bdrew (bnew _ _)) hb1) | exact Lib.hid (bstep (bstep (bdrew (Below.refl _ _)) (bnew _ _)) hb1)
         have M1 := Lib.hid m1; clear m1; try (have KG := Lib.hid ((Holds.drew (Holds.fresh W0 27 #[.func (.func 44) #[.agg #[.int .i64 (s).lo, .int .i64 (s).hi, .bool (s).k]] #[]] rfl)).kept hb1 (by simp))))
      | (go_at_call 47; (with_reducible refine (sumb_any s.hi n _).mono ?_); rintro e w2 ⟨f2, c2, rfl, m2, hb2⟩; have Q2 : Hid (Below W0.heap.size W0 w2) := by first | exact Lib.hid (bstep Q1.out hb2) | exact Lib.hid (bstep (bstep Q1.out (bnew _ _)) hb2)
         have M2 := Lib.hid m2; clear m2
         have N1 : Hid (Makes w2 f1 c1 (addB s.lo n) (told (addB s.lo n) (s.lo + n))) := by first | exact Lib.hid ((M1.out).kept hb2) | exact Lib.hid ((M1.out).kept (bstep (bnew _ _) hb2))
         first | (replace KG := Lib.hid ((KG.out).kept hb2 (KG.out).inside)) | (have KG := Lib.hid ((Holds.fresh w1 27 #[.func (.func 44) #[.agg #[.int .i64 (s).lo, .int .i64 (s).hi, .bool (s).k]] #[]] rfl).kept hb2 (by simp))) | skip)
      | (go_at_call 46; (with_reducible refine (CB.out _ _ _ _ _ _ ?_ ?_ ?_).mono ?_); (first | (with_reducible exact KG.out) | exact Holds.fresh w2 _ _ rfl); (first | (with_reducible exact N1.out) | exact (N1.out).kept (bnew _ _)); (first | (with_reducible exact M2.out) | exact (M2.out).kept (bnew _ _)); rintro e w3 ⟨rfl, hb3⟩; have Q3 : Hid (Below W0.heap.size W0 w3) := by first | exact Lib.hid (bstep Q2.out hb3) | exact Lib.hid (bstep (bstep Q2.out (bnew _ _)) hb3)
         have k0 := ((KZ.out).kept Q3.out (KZ.out).inside).reads (i := 0) rfl; have k1 := ((KZ.out).kept Q3.out (KZ.out).inside).reads (i := 1) rfl; have k2 := ((KZ.out).kept Q3.out (KZ.out).inside).reads (i := 2) rfl
         have f0 := ((KZ.out).kept Q3.out (KZ.out).inside).open_ 0; have f1 := ((KZ.out).kept Q3.out (KZ.out).inside).open_ 1; have f2 := ((KZ.out).kept Q3.out (KZ.out).inside).open_ 2))
  all_goals
    go_wp2
    refine bodyPost_ret (v := .agg #[.int .i64 (X).lo, .int .i64 (X).hi, .bool (X).k]) (by simp [results, Try.results26, go_sem, k0, k1, k2]) rfl ⟨?_, ?_⟩
    · exact ret_sp HX.out.symm
    · exact ((((HB.out).trans ((Q3.out).mono (HB.out).size)).setCell le2 _).setCell le2 _).setCell le2 _

end Go.Proofs.Ytblbjljfcoeeeaa
