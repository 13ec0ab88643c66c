/- The walks over span's Meet, every, Within. -/
import Derived.Test.YtblbjljfcoeeeaaSpanMade
namespace Go.Proofs.Ytblbjljfcoeeeaa
set_option maxRecDepth 100000
open Go.RowKit
set_option linter.unusedVariables false

set_option maxHeartbeats 1000000 in
theorem meet3_any (s o : Sp) (w : World) :
    Calls Try.prog 42 #[.agg #[.int .i64 (s).lo, .int .i64 (s).hi, .bool (s).k], .agg #[.int .i64 (o).lo, .int .i64 (o).hi, .bool (o).k]] w fun e w' => e = .returned (.agg #[.int .i64 (meetS s o).lo, .int .i64 (meetS s o).hi, .bool (meetS s o).k]) ∧ Below w.heap.size w w' := by
  have C0 := Lib.hid (bounded_any s)
  have C1 := Lib.hid (bounded_any o)
  have K0 := Lib.hid (((Holds.fresh w 38 #[.int .i64 s.lo, .int .i64 s.hi, .bool s.k] rfl).laid (.cells #[.int .i64 o.lo, .int .i64 o.hi, .bool o.k] 38)).laid (.cells #[.int .i64 0, .int .i64 0, .bool false] 38))
  have K1 := Lib.hid ((Holds.fresh (w.alloc (.cells #[.int .i64 s.lo, .int .i64 s.hi, .bool s.k] 38)) 38 #[.int .i64 o.lo, .int .i64 o.hi, .bool o.k] (g := w.heap.size + 1) (by simp)).laid (.cells #[.int .i64 0, .int .i64 0, .bool false] 38))
  have KZ := Lib.hid (Holds.fresh ((w.alloc (.cells #[.int .i64 s.lo, .int .i64 s.hi, .bool s.k] 38)).alloc (.cells #[.int .i64 o.lo, .int .i64 o.hi, .bool o.k] 38)) 38 #[.int .i64 0, .int .i64 0, .bool false] (g := w.heap.size + 1 + 1) (by simp))
  have le2 : w.heap.size ≤ w.heap.size + 1 + 1 := by omega
  cases hs : bndB s
  · obtain ⟨X, HX⟩ : ∃ X, Hid (tldS o = X) := ⟨_, Lib.hid rfl⟩
    have H := Lib.hid (show meetS s o = X by unfold meetS; rw [hs]; exact HX.out)
    rw [hs] at C0
    clear hs
    go_enter Try.func42, Try.ntmps42
    go_wp2_with fail
    refine (C0.out _).mono ?_
    rintro e w1 ⟨rfl, hb1⟩
    replace K1 := Lib.hid ((K1.out).kept hb1 (K1.out).inside); replace KZ := Lib.hid ((KZ.out).kept hb1 (KZ.out).inside)
    have HB := Lib.hid (bstep (bstep (bstep (bnew w _) (bnew _ _)) (bnew _ _)) hb1)
    clear hb1
    have d0 := (K1.out).reads (i := 0) rfl; have d1 := (K1.out).reads (i := 1) rfl; have d2 := (K1.out).reads (i := 2) rfl
    go_wp2_with fail
    refine (told3_any o _).mono ?_
    rintro e w2 ⟨rfl, hb2⟩
    rw [HX.out]
    replace KZ := Lib.hid ((KZ.out).kept hb2 (KZ.out).inside)
    replace HB := Lib.hid (bstep HB.out hb2)
    clear hb2
    have k0 := (KZ.out).reads (i := 0) rfl; have k1 := (KZ.out).reads (i := 1) rfl; have k2 := (KZ.out).reads (i := 2) rfl
    have f0 := (KZ.out).open_ 0; have f1 := (KZ.out).open_ 1; have f2 := (KZ.out).open_ 2
    go_wp2
    refine bodyPost_ret (v := .agg #[.int .i64 (X).lo, .int .i64 (X).hi, .bool (X).k]) (by simp [results, Try.results42, go_sem, k0, k1, k2]) rfl ⟨?_, ?_⟩
    · exact ret_sp H.out.symm
    · exact (((HB.out).setCell le2 _).setCell le2 _).setCell le2 _
  · cases ho : bndB o
    · have H := Lib.hid (show meetS s o = s by unfold meetS; rw [hs, ho]; rfl)
      rw [hs] at C0
      rw [ho] at C1
      clear hs ho
      go_enter Try.func42, Try.ntmps42
      go_wp2_with fail
      refine (C0.out _).mono ?_
      rintro e w1 ⟨rfl, hb1⟩
      replace K0 := Lib.hid ((K0.out).kept hb1 (K0.out).inside); replace K1 := Lib.hid ((K1.out).kept hb1 (K1.out).inside); replace KZ := Lib.hid ((KZ.out).kept hb1 (KZ.out).inside)
      have HB := Lib.hid (bstep (bstep (bstep (bnew w _) (bnew _ _)) (bnew _ _)) hb1)
      clear hb1
      have d0 := (K1.out).reads (i := 0) rfl; have d1 := (K1.out).reads (i := 1) rfl; have d2 := (K1.out).reads (i := 2) rfl
      go_wp2_with fail
      refine (C1.out _).mono ?_
      rintro e w2 ⟨rfl, hb2⟩
      replace K0 := Lib.hid ((K0.out).kept hb2 (K0.out).inside); replace KZ := Lib.hid ((KZ.out).kept hb2 (KZ.out).inside)
      replace HB := Lib.hid (bstep HB.out hb2)
      clear hb2
      have l0 := (K0.out).reads (i := 0) rfl; have l1 := (K0.out).reads (i := 1) rfl; have l2 := (K0.out).reads (i := 2) rfl
      have k0 := (KZ.out).reads (i := 0) rfl; have k1 := (KZ.out).reads (i := 1) rfl; have k2 := (KZ.out).reads (i := 2) rfl
      have f0 := (KZ.out).open_ 0; have f1 := (KZ.out).open_ 1; have f2 := (KZ.out).open_ 2
      go_wp2
      refine bodyPost_ret (v := .agg #[.int .i64 (s).lo, .int .i64 (s).hi, .bool (s).k]) (by simp [results, Try.results42, go_sem, k0, k1, k2]) rfl ⟨?_, ?_⟩
      · exact ret_sp H.out.symm
      · exact (((HB.out).setCell le2 _).setCell le2 _).setCell le2 _
    · obtain ⟨X, HX⟩ : ∃ X, Hid (ofS (maxI s.lo o.lo) (minI s.hi o.hi) = X) := ⟨_, Lib.hid rfl⟩
      have H := Lib.hid (show meetS s o = X by unfold meetS; rw [hs, ho]; exact HX.out)
      have CO : Hid (∀ a b, a = maxI s.lo o.lo → b = minI s.hi o.hi → ∀ w, Calls Try.prog 21 #[.int .i64 a, .int .i64 b] w fun e w' => e = .returned (.agg #[.int .i64 (X).lo, .int .i64 (X).hi, .bool (X).k]) ∧ Below w.heap.size w w') := by
        rw [← HX.out]
        rintro a b rfl rfl w
        exact of3_any _ _ w
      rw [hs] at C0
      rw [ho] at C1
      clear hs ho
      by_cases h1 : s.lo < o.lo <;> by_cases h2 : o.hi < s.hi
      all_goals
        go_enter Try.func42, Try.ntmps42
        go_wp2_with fail
        refine (C0.out _).mono ?_
        rintro e w1 ⟨rfl, hb1⟩
        replace K0 := Lib.hid ((K0.out).kept hb1 (K0.out).inside); replace K1 := Lib.hid ((K1.out).kept hb1 (K1.out).inside); replace KZ := Lib.hid ((KZ.out).kept hb1 (KZ.out).inside)
        have HB := Lib.hid (bstep (bstep (bstep (bnew w _) (bnew _ _)) (bnew _ _)) hb1)
        clear hb1
        have d0 := (K1.out).reads (i := 0) rfl; have d1 := (K1.out).reads (i := 1) rfl; have d2 := (K1.out).reads (i := 2) rfl
        go_wp2_with fail
        refine (C1.out _).mono ?_
        rintro e w2 ⟨rfl, hb2⟩
        replace K0 := Lib.hid ((K0.out).kept hb2 (K0.out).inside); replace K1 := Lib.hid ((K1.out).kept hb2 (K1.out).inside); replace KZ := Lib.hid ((KZ.out).kept hb2 (KZ.out).inside)
        replace HB := Lib.hid (bstep HB.out hb2)
        clear hb2
        have l0 := (K0.out).reads (i := 0) rfl; have l1 := (K0.out).reads (i := 1) rfl; have l2 := (K0.out).reads (i := 2) rfl
        have m0 := (K1.out).reads (i := 0) rfl; have m1 := (K1.out).reads (i := 1) rfl; have m2 := (K1.out).reads (i := 2) rfl
        go_wp2_with fail
        refine (CO.out _ _ ?_ ?_ _).mono ?_
        · unfold maxI; split <;> omega
        · unfold minI; split <;> omega
        rintro e w3 ⟨rfl, hb3⟩
        replace KZ := Lib.hid ((KZ.out).kept hb3 (KZ.out).inside)
        replace HB := Lib.hid (bstep HB.out hb3)
        clear hb3
        have k0 := (KZ.out).reads (i := 0) rfl; have k1 := (KZ.out).reads (i := 1) rfl; have k2 := (KZ.out).reads (i := 2) rfl
        have f0 := (KZ.out).open_ 0; have f1 := (KZ.out).open_ 1; have f2 := (KZ.out).open_ 2
        go_wp2
        refine bodyPost_ret (v := .agg #[.int .i64 (X).lo, .int .i64 (X).hi, .bool (X).k]) (by simp [results, Try.results42, go_sem, k0, k1, k2]) rfl ⟨?_, ?_⟩
        · exact ret_sp H.out.symm
        · exact (((HB.out).setCell le2 _).setCell le2 _).setCell le2 _

set_option maxHeartbeats 1000000 in
theorem every_has (o : Sp) (a b : Int) (g : Nat) (w : World) (kg : Holds w g 3 #[.int .i64 a, .int .i64 b]) :
    Calls Try.prog 45 #[.func (.func 22) #[.agg #[.int .i64 (o).lo, .int .i64 (o).hi, .bool (o).k]] #[], .slice (some ⟨g, 0, none⟩) 2 2] w fun e w' => e = .returned (.bool (hasS o a && hasS o b)) ∧ Below w.heap.size w w' := by
  have KG := Lib.hid kg
  have c0 := (KG.out).reads (i := 0) rfl
  have C0 := Lib.hid (has3_any o a)
  have C1 := Lib.hid (has3_any o b)
  clear kg
  cases ha : hasS o a
  · rw [ha] at C0
    clear ha
    go_enter Try.func45, Try.ntmps45
    go_wp2
    refine wp_loop_rounds 3 ?_
    rw [rounds_succ]
    go_wp2_with fail
    refine (C0.out _).mono ?_
    rintro e w1 ⟨rfl, hb1⟩
    go_wp2
    go_ret
    exact ⟨rfl, hb1⟩
  · rw [ha] at C0
    cases hb : hasS o b
    · rw [hb] at C1
      clear ha hb
      go_enter Try.func45, Try.ntmps45
      go_wp2
      refine wp_loop_rounds 3 ?_
      rw [rounds_succ]
      go_wp2_with fail
      refine (C0.out _).mono ?_
      rintro e w1 ⟨rfl, hb1⟩
      have c1 := ((KG.out).kept hb1 (KG.out).inside).reads (i := 1) rfl
      go_wp2
      rw [rounds_succ]
      go_wp2_with fail
      refine (C1.out _).mono ?_
      rintro e w2 ⟨rfl, hb2⟩
      go_wp2
      go_ret
      exact ⟨rfl, bstep hb1 hb2⟩
    · rw [hb] at C1
      clear ha hb
      go_enter Try.func45, Try.ntmps45
      go_wp2
      refine wp_loop_rounds 3 ?_
      rw [rounds_succ]
      go_wp2_with fail
      refine (C0.out _).mono ?_
      rintro e w1 ⟨rfl, hb1⟩
      have c1 := ((KG.out).kept hb1 (KG.out).inside).reads (i := 1) rfl
      go_wp2
      rw [rounds_succ]
      go_wp2_with fail
      refine (C1.out _).mono ?_
      rintro e w2 ⟨rfl, hb2⟩
      go_wp2
      rw [rounds_succ]
      go_wp2
      go_ret
      exact ⟨rfl, bstep hb1 hb2⟩

set_option maxHeartbeats 1000000 in
theorem within3_any (s o : Sp) (w : World) :
    Calls Try.prog 23 #[.agg #[.int .i64 (s).lo, .int .i64 (s).hi, .bool (s).k], .agg #[.int .i64 (o).lo, .int .i64 (o).hi, .bool (o).k]] w fun e w' => e = .returned (.bool (withinS s o)) ∧ Below w.heap.size w w' := by
  have C0 := Lib.hid (bounded_any s)
  have K0 := Lib.hid ((Holds.fresh w 38 #[.int .i64 s.lo, .int .i64 s.hi, .bool s.k] rfl).laid (.cells #[.int .i64 o.lo, .int .i64 o.hi, .bool o.k] 38))
  have K1 := Lib.hid (Holds.fresh (w.alloc (.cells #[.int .i64 s.lo, .int .i64 s.hi, .bool s.k] 38)) 38 #[.int .i64 o.lo, .int .i64 o.hi, .bool o.k] (g := w.heap.size + 1) (by simp))
  cases hs : bndB s
  · have H := Lib.hid (show withinS s o = !bndB o by unfold withinS; rw [hs]; rfl)
    rw [hs] at C0
    clear hs
    go_enter Try.func23, Try.ntmps23
    go_wp2_with fail
    refine (C0.out _).mono ?_
    rintro e w1 ⟨rfl, hb1⟩
    replace K1 := Lib.hid ((K1.out).kept hb1 (K1.out).inside)
    have HB := Lib.hid (bstep (bstep (bnew w _) (bnew _ _)) hb1)
    clear hb1
    have d0 := (K1.out).reads (i := 0) rfl; have d1 := (K1.out).reads (i := 1) rfl; have d2 := (K1.out).reads (i := 2) rfl
    go_wp2_with fail
    refine (bounded_any o _).mono ?_
    rintro e w2 ⟨rfl, hb2⟩
    go_wp2
    go_ret
    exact ⟨ret_bool H.out.symm, bstep HB.out hb2⟩
  · obtain ⟨R, HR⟩ : ∃ R, Hid ((hasS o s.lo && hasS o s.hi) = R) := ⟨_, Lib.hid rfl⟩
    have H := Lib.hid (show withinS s o = R by unfold withinS; rw [hs]; exact HR.out)
    rw [hs] at C0
    clear hs
    go_enter Try.func23, Try.ntmps23
    go_wp2_with fail
    refine (C0.out _).mono ?_
    rintro e w1 ⟨rfl, hb1⟩
    replace K0 := Lib.hid ((K0.out).kept hb1 (K0.out).inside); replace K1 := Lib.hid ((K1.out).kept hb1 (K1.out).inside)
    have HB := Lib.hid (bstep (bstep (bnew w _) (bnew _ _)) hb1)
    clear hb1
    have l0 := (K0.out).reads (i := 0) rfl; have l1 := (K0.out).reads (i := 1) rfl; have l2 := (K0.out).reads (i := 2) rfl
    have d0 := (K1.out).reads (i := 0) rfl; have d1 := (K1.out).reads (i := 1) rfl; have d2 := (K1.out).reads (i := 2) rfl
    go_wp2_with fail
    refine (every_has o s.lo s.hi _ _ (Holds.fresh _ _ _ (by simp))).mono ?_
    rintro e w2 ⟨rfl, hb2⟩
    rw [HR.out]
    go_wp2
    go_ret
    exact ⟨ret_bool H.out.symm, bstep (bstep HB.out (bnew _ _)) hb2⟩

end Go.Proofs.Ytblbjljfcoeeeaa
