/- The walks over span's Wider, Drift, and of its rounded, Scale. -/
import Derived.Test.YtblbjljfcoeeeaaSpanMade
namespace Go.Proofs.Ytblbjljfcoeeeaa
set_option maxRecDepth 100000
open Go.RowKit
set_option linter.unusedVariables false

set_option maxHeartbeats 1000000 in
theorem wideryes_any (s : Sp) (l h : Int) (w : World) (h0 : 0 ≤ l) (h1 : 0 ≤ h) :
    Calls Try.prog 52 #[.agg #[.int .i64 (s).lo, .int .i64 (s).hi, .bool (s).k], .int .i64 l, .int .i64 h] w fun e w' => e = .returned (.agg #[.int .i64 (widerS s l h).lo, .int .i64 (widerS s l h).hi, .bool (widerS s l h).k]) ∧ Below w.heap.size w w' := by
  obtain ⟨X, HX⟩ : ∃ X, Hid (widerS s l h = X) := ⟨_, Lib.hid rfl⟩
  have CB : Hid (∀ g f1 f2 c1 c2 w, Holds w g 27 #[.func (.func 44) #[.agg #[.int .i64 (s).lo, .int .i64 (s).hi, .bool (s).k]] #[]] →
      Makes w f1 c1 (subB s.lo l) (told (subB s.lo l) (s.lo - l)) → Makes w f2 c2 (addB s.hi h) (told (addB s.hi h) (s.hi + h)) →
      Calls Try.prog 46 #[.func (.func f1) #[] c1, .func (.func f2) #[] c2, .slice (some ⟨g, 0, none⟩) 1 1] w fun e w' => e = .returned (.agg #[.int .i64 (X).lo, .int .i64 (X).hi, .bool (X).k]) ∧ Below w.heap.size w w') := by
    rw [← HX.out]
    unfold widerS
    rw [if_neg (by omega)]
    exact fun g f1 f2 c1 c2 w k m1 m2 => between1_any s g _ _ _ _ f1 f2 c1 c2 w k m1 m2
  have K0 := Lib.hid (Holds.fresh w 38 #[.int .i64 s.lo, .int .i64 s.hi, .bool s.k] (g := w.heap.size) (by simp))
  replace K0 := Lib.hid ((K0.out).laid (.cells #[.int .i64 0, .int .i64 0, .bool false] 38))
  have KZ := Lib.hid (Holds.fresh (w.alloc (.cells #[.int .i64 s.lo, .int .i64 s.hi, .bool s.k] 38)) 38 #[.int .i64 0, .int .i64 0, .bool false] (g := w.heap.size + 1) (by simp))
  have HB := Lib.hid (bstep (bnew w _) (bnew _ _) : Below w.heap.size w ((w.alloc (.cells #[.int .i64 s.lo, .int .i64 s.hi, .bool s.k] 38)).alloc (.cells #[.int .i64 0, .int .i64 0, .bool false] 38)))
  go_enter Try.func52, Try.ntmps52
  go_wp2
  generalize ((w.alloc (.cells #[.int .i64 s.lo, .int .i64 s.hi, .bool s.k] 38)).alloc (.cells #[.int .i64 0, .int .i64 0, .bool false] 38)) = W0 at *
  have le2 : w.heap.size ≤ w.heap.size + 1 := by omega
  have d00 := (K0.out).reads (i := 0) rfl; have d01 := (K0.out).reads (i := 1) rfl; have d02 := (K0.out).reads (i := 2) rfl
  go_region_held3 (fun v => v.cell? ⟨w.heap.size, 0, none⟩ = some (.int .i64 s.lo) ∧ v.cell? ⟨w.heap.size, 1, none⟩ = some (.int .i64 s.hi) ∧ v.cell? ⟨w.heap.size, 2, none⟩ = some (.bool s.k))
    (first | (with_reducible exact keep3 (by assumption) (by assumption)) | (with_reducible exact keep3 (bnew _ _) (by assumption)) | go_keep)
    (first
      | (go_at_call 68; (with_reducible refine (lessb_any s.lo l _).mono ?_); rintro e w1 ⟨f1, c1, rfl, m1, hb1⟩; have Q1 : Hid (Below W0.heap.size W0 w1) := by first | exact Lib.hid (bstep (bdrew (Below.refl _ _)) hb1) | exact Lib.hid (bstep (bdrew (bnew _ _)) hb1) | exact Lib.hid (bstep (bstep (bdrew (Below.refl _ _)) (bnew _ _)) hb1)
         have M1 := Lib.hid m1; clear m1; try (have KG := Lib.hid ((Holds.drew (Holds.fresh W0 27 #[.func (.func 44) #[.agg #[.int .i64 (s).lo, .int .i64 (s).hi, .bool (s).k]] #[]] rfl)).kept hb1 (by simp))))
      | (go_at_call 47; (with_reducible refine (sumb_any s.hi h _).mono ?_); rintro e w2 ⟨f2, c2, rfl, m2, hb2⟩; have Q2 : Hid (Below W0.heap.size W0 w2) := by first | exact Lib.hid (bstep Q1.out hb2) | exact Lib.hid (bstep (bstep Q1.out (bnew _ _)) hb2)
         have M2 := Lib.hid m2; clear m2
         have N1 : Hid (Makes w2 f1 c1 (subB s.lo l) (told (subB s.lo l) (s.lo - l))) := by first | exact Lib.hid ((M1.out).kept hb2) | exact Lib.hid ((M1.out).kept (bstep (bnew _ _) hb2))
         first | (replace KG := Lib.hid ((KG.out).kept hb2 (KG.out).inside)) | (have KG := Lib.hid ((Holds.fresh w1 27 #[.func (.func 44) #[.agg #[.int .i64 (s).lo, .int .i64 (s).hi, .bool (s).k]] #[]] rfl).kept hb2 (by simp))) | skip)
      | (go_at_call 46; (with_reducible refine (CB.out _ _ _ _ _ _ ?_ ?_ ?_).mono ?_); (first | (with_reducible exact KG.out) | exact Holds.fresh w2 _ _ rfl); (first | (with_reducible exact N1.out) | exact (N1.out).kept (bnew _ _)); (first | (with_reducible exact M2.out) | exact (M2.out).kept (bnew _ _)); rintro e w3 ⟨rfl, hb3⟩; have Q3 : Hid (Below W0.heap.size W0 w3) := by first | exact Lib.hid (bstep Q2.out hb3) | exact Lib.hid (bstep (bstep Q2.out (bnew _ _)) hb3)
         have k0 := ((KZ.out).kept Q3.out (KZ.out).inside).reads (i := 0) rfl; have k1 := ((KZ.out).kept Q3.out (KZ.out).inside).reads (i := 1) rfl; have k2 := ((KZ.out).kept Q3.out (KZ.out).inside).reads (i := 2) rfl
         have f0 := ((KZ.out).kept Q3.out (KZ.out).inside).open_ 0; have f1 := ((KZ.out).kept Q3.out (KZ.out).inside).open_ 1; have f2 := ((KZ.out).kept Q3.out (KZ.out).inside).open_ 2))
  all_goals
    go_wp2
    refine bodyPost_ret (v := .agg #[.int .i64 (X).lo, .int .i64 (X).hi, .bool (X).k]) (by simp [results, Try.results52, go_sem, k0, k1, k2]) rfl ⟨?_, ?_⟩
    · exact ret_sp HX.out.symm
    · exact ((((HB.out).trans ((Q3.out).mono (HB.out).size)).setCell le2 _).setCell le2 _).setCell le2 _

set_option maxHeartbeats 1000000 in
theorem widerno_any (s : Sp) (l h : Int) (w : World) (hn : l < 0 ∨ (0 ≤ l ∧ h < 0)) :
    Calls Try.prog 52 #[.agg #[.int .i64 (s).lo, .int .i64 (s).hi, .bool (s).k], .int .i64 l, .int .i64 h] w fun e w' => e = .returned (.agg #[.int .i64 (widerS s l h).lo, .int .i64 (widerS s l h).hi, .bool (widerS s l h).k]) ∧ Below w.heap.size w w' := by
  have H := Lib.hid (show widerS s l h = unS by unfold widerS; rw [if_pos (by omega)])
  have le2 : w.heap.size ≤ w.heap.size + 1 := by omega
  have KZ := Lib.hid (Holds.fresh (w.alloc (.cells #[.int .i64 s.lo, .int .i64 s.hi, .bool s.k] 38)) 38 #[.int .i64 0, .int .i64 0, .bool false] (g := w.heap.size + 1) (by simp))
  have HB := Lib.hid (bstep (bnew w (.cells #[.int .i64 s.lo, .int .i64 s.hi, .bool s.k] 38)) (bnew _ (.cells #[.int .i64 0, .int .i64 0, .bool false] 38)))
  rcases hn with hn | ⟨hn, hn'⟩
  all_goals
    go_enter Try.func52, Try.ntmps52
    go_wp2_with fail
    refine (unknown_any _).mono ?_
    rintro e w1 ⟨rfl, hb1⟩
    replace KZ := Lib.hid ((KZ.out).kept hb1 (KZ.out).inside)
    replace HB := Lib.hid (bstep HB.out hb1)
    clear hb1
    have k0 := (KZ.out).reads (i := 0) rfl; have k1 := (KZ.out).reads (i := 1) rfl; have k2 := (KZ.out).reads (i := 2) rfl
    have f0 := (KZ.out).open_ 0; have f1 := (KZ.out).open_ 1; have f2 := (KZ.out).open_ 2
    go_wp2
    refine bodyPost_ret (v := .agg #[.int .i64 0, .int .i64 0, .bool false]) (by simp [results, Try.results52, go_sem, k0, k1, k2]) rfl ⟨?_, ?_⟩
    · exact (by rw [H.out]; rfl)
    · exact (((HB.out).setCell le2 _).setCell le2 _).setCell le2 _

theorem wider3_any (s : Sp) (l h : Int) (w : World) :
    Calls Try.prog 52 #[.agg #[.int .i64 (s).lo, .int .i64 (s).hi, .bool (s).k], .int .i64 l, .int .i64 h] w fun e w' => e = .returned (.agg #[.int .i64 (widerS s l h).lo, .int .i64 (widerS s l h).hi, .bool (widerS s l h).k]) ∧ Below w.heap.size w w' := by
  by_cases h0 : l < 0
  · exact widerno_any s l h w (Or.inl h0)
  · by_cases h1 : h < 0
    · exact widerno_any s l h w (Or.inr ⟨by omega, h1⟩)
    · exact wideryes_any s l h w (by omega) (by omega)

set_option maxHeartbeats 1000000 in
theorem drift3_any (s : Sp) (p q : Int) (w : World) (hp : In64 p) :
    Calls Try.prog 30 #[.agg #[.int .i64 (s).lo, .int .i64 (s).hi, .bool (s).k], .int .i64 p, .int .i64 q] w fun e w' => e = .returned (.agg #[.int .i64 (driftS s p q).lo, .int .i64 (driftS s p q).hi, .bool (driftS s p q).k]) ∧ Below w.heap.size w w' := by
  have le2 : w.heap.size ≤ w.heap.size + 1 := by omega
  have K0 := Lib.hid ((Holds.fresh w 38 #[.int .i64 s.lo, .int .i64 s.hi, .bool s.k] rfl).laid (.cells #[.int .i64 0, .int .i64 0, .bool false] 38))
  have KZ := Lib.hid (Holds.fresh (w.alloc (.cells #[.int .i64 s.lo, .int .i64 s.hi, .bool s.k] 38)) 38 #[.int .i64 0, .int .i64 0, .bool false] (g := w.heap.size + 1) (by simp))
  have HB := Lib.hid (bstep (bnew w (.cells #[.int .i64 s.lo, .int .i64 s.hi, .bool s.k] 38)) (bnew _ (.cells #[.int .i64 0, .int .i64 0, .bool false] 38)))
  by_cases h0 : p < 0
  · have H := Lib.hid (show driftS s p q = unS by unfold driftS; rw [if_neg (by omega)])
    clear hp
    go_enter Try.func30, Try.ntmps30
    go_wp2_with fail
    refine (unknown_any _).mono ?_
    rintro e w1 ⟨rfl, hb1⟩
    replace KZ := Lib.hid ((KZ.out).kept hb1 (KZ.out).inside)
    replace HB := Lib.hid (bstep HB.out hb1)
    clear hb1
    have k0 := (KZ.out).reads (i := 0) rfl; have k1 := (KZ.out).reads (i := 1) rfl; have k2 := (KZ.out).reads (i := 2) rfl
    have f0 := (KZ.out).open_ 0; have f1 := (KZ.out).open_ 1; have f2 := (KZ.out).open_ 2
    go_wp2
    refine bodyPost_ret (v := .agg #[.int .i64 0, .int .i64 0, .bool false]) (by simp [results, Try.results30, go_sem, k0, k1, k2]) rfl ⟨?_, ?_⟩
    · exact (by rw [H.out]; rfl)
    · exact (((HB.out).setCell le2 _).setCell le2 _).setCell le2 _
  · have h0' : decide (p < 0) = false := by simpa using h0
    have CR := Lib.hid (israte_any q)
    cases hr : rateB q
    · have H := Lib.hid (show driftS s p q = unS by unfold driftS; rw [if_neg (by rw [hr]; simp)])
      rw [hr] at CR
      clear hp hr
      go_enter Try.func30, Try.ntmps30
      go_wp2_with fail
      refine (CR.out _).mono ?_
      rintro e w1 ⟨rfl, rfl⟩
      go_wp2_with fail
      refine (unknown_any _).mono ?_
      rintro e w1 ⟨rfl, hb1⟩
      replace KZ := Lib.hid ((KZ.out).kept hb1 (KZ.out).inside)
      replace HB := Lib.hid (bstep HB.out hb1)
      clear hb1
      have k0 := (KZ.out).reads (i := 0) rfl; have k1 := (KZ.out).reads (i := 1) rfl; have k2 := (KZ.out).reads (i := 2) rfl
      have f0 := (KZ.out).open_ 0; have f1 := (KZ.out).open_ 1; have f2 := (KZ.out).open_ 2
      go_wp2
      refine bodyPost_ret (v := .agg #[.int .i64 0, .int .i64 0, .bool false]) (by simp [results, Try.results30, go_sem, k0, k1, k2]) rfl ⟨?_, ?_⟩
      · exact (by rw [H.out]; rfl)
      · exact (((HB.out).setCell le2 _).setCell le2 _).setCell le2 _
    · rw [hr] at CR
      obtain ⟨x, Hx⟩ : ∃ x, Hid (told (ceilB p q 1000000000) (ceilN p q 1000000000) = x) := ⟨_, Lib.hid rfl⟩
      have CC := Lib.hid (fun w => ceil_any p q 1000000000 w hp)
      rw [Hx.out] at CC
      cases hc : ceilB p q 1000000000
      · have H := Lib.hid (show driftS s p q = unS by unfold driftS; rw [if_neg (by rw [hc]; simp)])
        rw [hc] at CC
        clear hp hr hc
        go_enter Try.func30, Try.ntmps30
        go_wp2_with fail
        refine (CR.out _).mono ?_
        rintro e w1 ⟨rfl, rfl⟩
        go_wp2_with fail
        refine (CC.out _).mono ?_
        rintro e w1 ⟨rfl, hb1⟩
        replace KZ := Lib.hid ((KZ.out).kept hb1 (KZ.out).inside)
        replace HB := Lib.hid (bstep HB.out hb1)
        clear hb1
        go_wp2_with fail
        refine (unknown_any _).mono ?_
        rintro e w2 ⟨rfl, hb2⟩
        replace KZ := Lib.hid ((KZ.out).kept hb2 (KZ.out).inside)
        replace HB := Lib.hid (bstep HB.out hb2)
        clear hb2
        have k0 := (KZ.out).reads (i := 0) rfl; have k1 := (KZ.out).reads (i := 1) rfl; have k2 := (KZ.out).reads (i := 2) rfl
        have f0 := (KZ.out).open_ 0; have f1 := (KZ.out).open_ 1; have f2 := (KZ.out).open_ 2
        go_wp2
        refine bodyPost_ret (v := .agg #[.int .i64 0, .int .i64 0, .bool false]) (by simp [results, Try.results30, go_sem, k0, k1, k2]) rfl ⟨?_, ?_⟩
        · exact (by rw [H.out]; rfl)
        · exact (((HB.out).setCell le2 _).setCell le2 _).setCell le2 _
      · obtain ⟨X, HX⟩ : ∃ X, Hid (widerS s x x = X) := ⟨_, Lib.hid rfl⟩
        have H := Lib.hid (show driftS s p q = X by
          unfold driftS
          rw [if_pos ⟨by omega, hr, hc⟩, ← HX.out, ← Hx.out, hc]; rfl)
        rw [hc] at CC
        clear hp hr hc
        go_enter Try.func30, Try.ntmps30
        go_wp2_with fail
        refine (CR.out _).mono ?_
        rintro e w1 ⟨rfl, rfl⟩
        go_wp2_with fail
        refine (CC.out _).mono ?_
        rintro e w1 ⟨rfl, hb1⟩
        replace K0 := Lib.hid ((K0.out).kept hb1 (K0.out).inside); replace KZ := Lib.hid ((KZ.out).kept hb1 (KZ.out).inside)
        replace HB := Lib.hid (bstep HB.out hb1)
        clear hb1
        have l0 := (K0.out).reads (i := 0) rfl; have l1 := (K0.out).reads (i := 1) rfl; have l2 := (K0.out).reads (i := 2) rfl
        go_wp2_with fail
        refine (wider3_any s x x _).mono ?_
        rintro e w2 ⟨rfl, hb2⟩
        rw [HX.out]
        replace KZ := Lib.hid ((KZ.out).kept hb2 (KZ.out).inside)
        replace HB := Lib.hid (bstep HB.out hb2)
        clear hb2
        have k0 := (KZ.out).reads (i := 0) rfl; have k1 := (KZ.out).reads (i := 1) rfl; have k2 := (KZ.out).reads (i := 2) rfl
        have f0 := (KZ.out).open_ 0; have f1 := (KZ.out).open_ 1; have f2 := (KZ.out).open_ 2
        go_wp2
        refine bodyPost_ret (v := .agg #[.int .i64 (X).lo, .int .i64 (X).hi, .bool (X).k]) (by simp [results, Try.results30, go_sem, k0, k1, k2]) rfl ⟨?_, ?_⟩
        · exact ret_sp H.out.symm
        · exact (((HB.out).setCell le2 _).setCell le2 _).setCell le2 _

end Go.Proofs.Ytblbjljfcoeeeaa
