/- The walks over the reference's Add, Sub, Wider, Meet, Hull of layer 3. -/
import Derived.Test.YtblbjljfcoeeeaaSpanRef
namespace Go.Proofs.Ytblbjljfcoeeeaa
set_option maxRecDepth 100000
open Go.RowKit
set_option linter.unusedVariables false

set_option maxHeartbeats 2000000 in
theorem radd3_any (s o : Sp) (w : World) :
    Calls Try.prog 33 #[.agg #[.int .i64 (s).lo, .int .i64 (s).hi, .bool (s).k], .agg #[.int .i64 (o).lo, .int .i64 (o).hi, .bool (o).k]] w fun e w' => e = .returned (.agg #[.int .i64 (addS s o).lo, .int .i64 (addS s o).hi, .bool (addS s o).k]) ∧ Below w.heap.size w w' := by
  obtain ⟨a, b, k, HT0⟩ : ∃ a b k, Hid (tldS s = ⟨a, b, k⟩) := ⟨_, _, _, Lib.hid rfl⟩
  have C0 : Hid (∀ w, Calls Try.prog 56 #[.agg #[.int .i64 (s).lo, .int .i64 (s).hi, .bool (s).k]] w fun e w' => e = .returned (.agg #[.int .i64 a, .int .i64 b, .bool k]) ∧ Below w.heap.size w w') := by
    have h := rtold3_any s
    rw [HT0.out] at h
    exact h
  obtain ⟨c, d, j, HT1⟩ : ∃ c d j, Hid (tldS o = ⟨c, d, j⟩) := ⟨_, _, _, Lib.hid rfl⟩
  have C1 : Hid (∀ w, Calls Try.prog 56 #[.agg #[.int .i64 (o).lo, .int .i64 (o).hi, .bool (o).k]] w fun e w' => e = .returned (.agg #[.int .i64 c, .int .i64 d, .bool j]) ∧ Below w.heap.size w w') := by
    have h := rtold3_any o
    rw [HT1.out] at h
    exact h
  have K0 := Lib.hid (Holds.fresh w 29 #[.int .i64 s.lo, .int .i64 s.hi, .bool s.k] (g := w.heap.size) (by simp))
  replace K0 := Lib.hid ((K0.out).laid (.cells #[.int .i64 o.lo, .int .i64 o.hi, .bool o.k] 29))
  replace K0 := Lib.hid ((K0.out).laid (.cells #[.int .i64 0, .int .i64 0, .bool false] 29))
  have K1 := Lib.hid (Holds.fresh (w.alloc (.cells #[.int .i64 s.lo, .int .i64 s.hi, .bool s.k] 29)) 29 #[.int .i64 o.lo, .int .i64 o.hi, .bool o.k] (g := w.heap.size + 1) (by simp))
  replace K1 := Lib.hid ((K1.out).laid (.cells #[.int .i64 0, .int .i64 0, .bool false] 29))
  have KZ := Lib.hid (Holds.fresh ((w.alloc (.cells #[.int .i64 s.lo, .int .i64 s.hi, .bool s.k] 29)).alloc (.cells #[.int .i64 o.lo, .int .i64 o.hi, .bool o.k] 29)) 29 #[.int .i64 0, .int .i64 0, .bool false] (g := w.heap.size + 1 + 1) (by simp))
  have HB := Lib.hid (bstep (bstep (bnew w (.cells #[.int .i64 s.lo, .int .i64 s.hi, .bool s.k] 29)) (bnew _ (.cells #[.int .i64 o.lo, .int .i64 o.hi, .bool o.k] 29))) (bnew _ (.cells #[.int .i64 0, .int .i64 0, .bool false] 29)))
  have ne0 : ¬ (w.heap.size = w.heap.size + 1 + 1) := by omega
  have ne1 : ¬ (w.heap.size + 1 + 1 = w.heap.size) := by omega
  have le0 : w.heap.size ≤ w.heap.size := Nat.le_refl _
  have le1 : w.heap.size ≤ w.heap.size + 1 := by omega
  have le2 : w.heap.size ≤ w.heap.size + 1 + 1 := by omega
  obtain ⟨x, Hx⟩ : ∃ x, Hid (told (addB a c) (a + c) = x) := ⟨_, Lib.hid rfl⟩
  obtain ⟨y, Hy⟩ : ∃ y, Hid (told (addB b d) (b + d) = y) := ⟨_, Lib.hid rfl⟩
  obtain ⟨B1, HB1⟩ : ∃ B, Hid ((addB a c) = B) := ⟨_, Lib.hid rfl⟩
  obtain ⟨B2, HB2⟩ : ∃ B, Hid ((addB b d) = B) := ⟨_, Lib.hid rfl⟩
  obtain ⟨X, HX⟩ : ∃ X, Hid (ofS x y = X) := ⟨_, Lib.hid rfl⟩
  have D1 := Lib.hid (radd_any a c)
  rw [Hx.out, HB1.out] at D1
  have D2 := Lib.hid (radd_any b d)
  rw [Hy.out, HB2.out] at D2
  have CO := Lib.hid (rof3_any x y)
  rw [HX.out] at CO
  have HS : Hid (addS s o = betS (k && j) B1 B2 x y) := by
    rw [Hid, addS_told, HT0.out, HT1.out]
    rw [← Hx.out, ← Hy.out, ← HB1.out, ← HB2.out]
  clear Hx Hy HB1 HB2 HT0 HT1
  cases k
  · have H := Lib.hid (show addS s o = unS by rw [HS.out]; rfl)
    clear HS
    go_enter Try.func33, Try.ntmps33
    go_wp2_with fail
    refine (C0.out _).mono ?_
    rintro e v1 ⟨rfl, hv1⟩
    replace K0 := Lib.hid ((K0.out).kept hv1 (K0.out).inside)
    replace K1 := Lib.hid ((K1.out).kept hv1 (K1.out).inside)
    replace KZ := Lib.hid ((KZ.out).kept hv1 (KZ.out).inside)
    replace HB := Lib.hid (bstep HB.out hv1)
    clear hv1
    have x00 := (K0.out).reads (i := 0) rfl; have x01 := (K0.out).reads (i := 1) rfl; have x02 := (K0.out).reads (i := 2) rfl
    have y00 := (K0.out).open_ 0; have y01 := (K0.out).open_ 1; have y02 := (K0.out).open_ 2
    have z00 := (K1.out).reads (i := 0) rfl; have z01 := (K1.out).reads (i := 1) rfl; have z02 := (K1.out).reads (i := 2) rfl
    go_wp2_with fail
    refine (C1.out _).mono ?_
    rintro e v2 ⟨rfl, hv2⟩
    replace K0 := Lib.hid (((K0.out).put3 (.int .i64 a) (.int .i64 b) (.bool false)).kept hv2 ((K0.out).put3 (.int .i64 a) (.int .i64 b) (.bool false)).inside)
    replace K1 := Lib.hid (((K1.out).aside3 (g := w.heap.size) (by omega) (.int .i64 a) (.int .i64 b) (.bool false)).kept hv2 ((K1.out).aside3 (g := w.heap.size) (by omega) (.int .i64 a) (.int .i64 b) (.bool false)).inside)
    replace KZ := Lib.hid (((KZ.out).aside3 (g := w.heap.size) (by omega) (.int .i64 a) (.int .i64 b) (.bool false)).kept hv2 ((KZ.out).aside3 (g := w.heap.size) (by omega) (.int .i64 a) (.int .i64 b) (.bool false)).inside)
    replace HB := Lib.hid (bstep (bput3 HB.out le0 _ _ _) hv2)
    clear hv2
    have x10 := (K1.out).reads (i := 0) rfl; have x11 := (K1.out).reads (i := 1) rfl; have x12 := (K1.out).reads (i := 2) rfl
    have y10 := (K1.out).open_ 0; have y11 := (K1.out).open_ 1; have y12 := (K1.out).open_ 2
    have z10 := (K0.out).reads (i := 0) rfl; have z11 := (K0.out).reads (i := 1) rfl; have z12 := (K0.out).reads (i := 2) rfl
    go_wp2_with fail
    refine (D1.out _).mono ?_
    rintro e v3 ⟨rfl, hv3⟩
    replace K0 := Lib.hid (((K0.out).aside3 (g := w.heap.size + 1) (by omega) (.int .i64 c) (.int .i64 d) (.bool j)).kept hv3 ((K0.out).aside3 (g := w.heap.size + 1) (by omega) (.int .i64 c) (.int .i64 d) (.bool j)).inside)
    replace K1 := Lib.hid (((K1.out).put3 (.int .i64 c) (.int .i64 d) (.bool j)).kept hv3 ((K1.out).put3 (.int .i64 c) (.int .i64 d) (.bool j)).inside)
    replace KZ := Lib.hid (((KZ.out).aside3 (g := w.heap.size + 1) (by omega) (.int .i64 c) (.int .i64 d) (.bool j)).kept hv3 ((KZ.out).aside3 (g := w.heap.size + 1) (by omega) (.int .i64 c) (.int .i64 d) (.bool j)).inside)
    replace HB := Lib.hid (bstep (bput3 HB.out le1 _ _ _) hv3)
    clear hv3
    have q00 := (K0.out).reads (i := 0) rfl; have q01 := (K0.out).reads (i := 1) rfl; have q02 := (K0.out).reads (i := 2) rfl
    have q10 := (K1.out).reads (i := 0) rfl; have q11 := (K1.out).reads (i := 1) rfl; have q12 := (K1.out).reads (i := 2) rfl
    go_wp2_with fail
    refine (D2.out _).mono ?_
    rintro e v4 ⟨rfl, hv4⟩
    replace K0 := Lib.hid ((K0.out).kept hv4 (K0.out).inside)
    replace K1 := Lib.hid ((K1.out).kept hv4 (K1.out).inside)
    replace KZ := Lib.hid ((KZ.out).kept hv4 (KZ.out).inside)
    replace HB := Lib.hid (bstep HB.out hv4)
    clear hv4
    have r00 := (K0.out).reads (i := 0) rfl; have r01 := (K0.out).reads (i := 1) rfl; have r02 := (K0.out).reads (i := 2) rfl
    have r10 := (K1.out).reads (i := 0) rfl; have r11 := (K1.out).reads (i := 1) rfl; have r12 := (K1.out).reads (i := 2) rfl
    have k0 := (KZ.out).reads (i := 0) rfl; have k1 := (KZ.out).reads (i := 1) rfl; have k2 := (KZ.out).reads (i := 2) rfl
    have f0 := (KZ.out).open_ 0; have f1 := (KZ.out).open_ 1; have f2 := (KZ.out).open_ 2
    go_wp2
    refine bodyPost_ret (v := .agg #[.int .i64 0, .int .i64 0, .bool false]) (by simp [results, Try.results33, go_sem, k0, k1, k2]) rfl ⟨?_, ?_⟩
    · exact (by rw [H.out]; rfl)
    · exact bput3 HB.out le2 _ _ _
  · cases j
    · have H := Lib.hid (show addS s o = unS by rw [HS.out]; rfl)
      clear HS
      go_enter Try.func33, Try.ntmps33
      go_wp2_with fail
      refine (C0.out _).mono ?_
      rintro e v1 ⟨rfl, hv1⟩
      replace K0 := Lib.hid ((K0.out).kept hv1 (K0.out).inside)
      replace K1 := Lib.hid ((K1.out).kept hv1 (K1.out).inside)
      replace KZ := Lib.hid ((KZ.out).kept hv1 (KZ.out).inside)
      replace HB := Lib.hid (bstep HB.out hv1)
      clear hv1
      have x00 := (K0.out).reads (i := 0) rfl; have x01 := (K0.out).reads (i := 1) rfl; have x02 := (K0.out).reads (i := 2) rfl
      have y00 := (K0.out).open_ 0; have y01 := (K0.out).open_ 1; have y02 := (K0.out).open_ 2
      have z00 := (K1.out).reads (i := 0) rfl; have z01 := (K1.out).reads (i := 1) rfl; have z02 := (K1.out).reads (i := 2) rfl
      go_wp2_with fail
      refine (C1.out _).mono ?_
      rintro e v2 ⟨rfl, hv2⟩
      replace K0 := Lib.hid (((K0.out).put3 (.int .i64 a) (.int .i64 b) (.bool true)).kept hv2 ((K0.out).put3 (.int .i64 a) (.int .i64 b) (.bool true)).inside)
      replace K1 := Lib.hid (((K1.out).aside3 (g := w.heap.size) (by omega) (.int .i64 a) (.int .i64 b) (.bool true)).kept hv2 ((K1.out).aside3 (g := w.heap.size) (by omega) (.int .i64 a) (.int .i64 b) (.bool true)).inside)
      replace KZ := Lib.hid (((KZ.out).aside3 (g := w.heap.size) (by omega) (.int .i64 a) (.int .i64 b) (.bool true)).kept hv2 ((KZ.out).aside3 (g := w.heap.size) (by omega) (.int .i64 a) (.int .i64 b) (.bool true)).inside)
      replace HB := Lib.hid (bstep (bput3 HB.out le0 _ _ _) hv2)
      clear hv2
      have x10 := (K1.out).reads (i := 0) rfl; have x11 := (K1.out).reads (i := 1) rfl; have x12 := (K1.out).reads (i := 2) rfl
      have y10 := (K1.out).open_ 0; have y11 := (K1.out).open_ 1; have y12 := (K1.out).open_ 2
      have z10 := (K0.out).reads (i := 0) rfl; have z11 := (K0.out).reads (i := 1) rfl; have z12 := (K0.out).reads (i := 2) rfl
      go_wp2_with fail
      refine (D1.out _).mono ?_
      rintro e v3 ⟨rfl, hv3⟩
      replace K0 := Lib.hid (((K0.out).aside3 (g := w.heap.size + 1) (by omega) (.int .i64 c) (.int .i64 d) (.bool false)).kept hv3 ((K0.out).aside3 (g := w.heap.size + 1) (by omega) (.int .i64 c) (.int .i64 d) (.bool false)).inside)
      replace K1 := Lib.hid (((K1.out).put3 (.int .i64 c) (.int .i64 d) (.bool false)).kept hv3 ((K1.out).put3 (.int .i64 c) (.int .i64 d) (.bool false)).inside)
      replace KZ := Lib.hid (((KZ.out).aside3 (g := w.heap.size + 1) (by omega) (.int .i64 c) (.int .i64 d) (.bool false)).kept hv3 ((KZ.out).aside3 (g := w.heap.size + 1) (by omega) (.int .i64 c) (.int .i64 d) (.bool false)).inside)
      replace HB := Lib.hid (bstep (bput3 HB.out le1 _ _ _) hv3)
      clear hv3
      have q00 := (K0.out).reads (i := 0) rfl; have q01 := (K0.out).reads (i := 1) rfl; have q02 := (K0.out).reads (i := 2) rfl
      have q10 := (K1.out).reads (i := 0) rfl; have q11 := (K1.out).reads (i := 1) rfl; have q12 := (K1.out).reads (i := 2) rfl
      go_wp2_with fail
      refine (D2.out _).mono ?_
      rintro e v4 ⟨rfl, hv4⟩
      replace K0 := Lib.hid ((K0.out).kept hv4 (K0.out).inside)
      replace K1 := Lib.hid ((K1.out).kept hv4 (K1.out).inside)
      replace KZ := Lib.hid ((KZ.out).kept hv4 (KZ.out).inside)
      replace HB := Lib.hid (bstep HB.out hv4)
      clear hv4
      have r00 := (K0.out).reads (i := 0) rfl; have r01 := (K0.out).reads (i := 1) rfl; have r02 := (K0.out).reads (i := 2) rfl
      have r10 := (K1.out).reads (i := 0) rfl; have r11 := (K1.out).reads (i := 1) rfl; have r12 := (K1.out).reads (i := 2) rfl
      have k0 := (KZ.out).reads (i := 0) rfl; have k1 := (KZ.out).reads (i := 1) rfl; have k2 := (KZ.out).reads (i := 2) rfl
      have f0 := (KZ.out).open_ 0; have f1 := (KZ.out).open_ 1; have f2 := (KZ.out).open_ 2
      go_wp2
      refine bodyPost_ret (v := .agg #[.int .i64 0, .int .i64 0, .bool false]) (by simp [results, Try.results33, go_sem, k0, k1, k2]) rfl ⟨?_, ?_⟩
      · exact (by rw [H.out]; rfl)
      · exact bput3 HB.out le2 _ _ _
    · cases B1
      · have H := Lib.hid (show addS s o = unS by rw [HS.out]; rfl)
        clear HS
        go_enter Try.func33, Try.ntmps33
        go_wp2_with fail
        refine (C0.out _).mono ?_
        rintro e v1 ⟨rfl, hv1⟩
        replace K0 := Lib.hid ((K0.out).kept hv1 (K0.out).inside)
        replace K1 := Lib.hid ((K1.out).kept hv1 (K1.out).inside)
        replace KZ := Lib.hid ((KZ.out).kept hv1 (KZ.out).inside)
        replace HB := Lib.hid (bstep HB.out hv1)
        clear hv1
        have x00 := (K0.out).reads (i := 0) rfl; have x01 := (K0.out).reads (i := 1) rfl; have x02 := (K0.out).reads (i := 2) rfl
        have y00 := (K0.out).open_ 0; have y01 := (K0.out).open_ 1; have y02 := (K0.out).open_ 2
        have z00 := (K1.out).reads (i := 0) rfl; have z01 := (K1.out).reads (i := 1) rfl; have z02 := (K1.out).reads (i := 2) rfl
        go_wp2_with fail
        refine (C1.out _).mono ?_
        rintro e v2 ⟨rfl, hv2⟩
        replace K0 := Lib.hid (((K0.out).put3 (.int .i64 a) (.int .i64 b) (.bool true)).kept hv2 ((K0.out).put3 (.int .i64 a) (.int .i64 b) (.bool true)).inside)
        replace K1 := Lib.hid (((K1.out).aside3 (g := w.heap.size) (by omega) (.int .i64 a) (.int .i64 b) (.bool true)).kept hv2 ((K1.out).aside3 (g := w.heap.size) (by omega) (.int .i64 a) (.int .i64 b) (.bool true)).inside)
        replace KZ := Lib.hid (((KZ.out).aside3 (g := w.heap.size) (by omega) (.int .i64 a) (.int .i64 b) (.bool true)).kept hv2 ((KZ.out).aside3 (g := w.heap.size) (by omega) (.int .i64 a) (.int .i64 b) (.bool true)).inside)
        replace HB := Lib.hid (bstep (bput3 HB.out le0 _ _ _) hv2)
        clear hv2
        have x10 := (K1.out).reads (i := 0) rfl; have x11 := (K1.out).reads (i := 1) rfl; have x12 := (K1.out).reads (i := 2) rfl
        have y10 := (K1.out).open_ 0; have y11 := (K1.out).open_ 1; have y12 := (K1.out).open_ 2
        have z10 := (K0.out).reads (i := 0) rfl; have z11 := (K0.out).reads (i := 1) rfl; have z12 := (K0.out).reads (i := 2) rfl
        go_wp2_with fail
        refine (D1.out _).mono ?_
        rintro e v3 ⟨rfl, hv3⟩
        replace K0 := Lib.hid (((K0.out).aside3 (g := w.heap.size + 1) (by omega) (.int .i64 c) (.int .i64 d) (.bool true)).kept hv3 ((K0.out).aside3 (g := w.heap.size + 1) (by omega) (.int .i64 c) (.int .i64 d) (.bool true)).inside)
        replace K1 := Lib.hid (((K1.out).put3 (.int .i64 c) (.int .i64 d) (.bool true)).kept hv3 ((K1.out).put3 (.int .i64 c) (.int .i64 d) (.bool true)).inside)
        replace KZ := Lib.hid (((KZ.out).aside3 (g := w.heap.size + 1) (by omega) (.int .i64 c) (.int .i64 d) (.bool true)).kept hv3 ((KZ.out).aside3 (g := w.heap.size + 1) (by omega) (.int .i64 c) (.int .i64 d) (.bool true)).inside)
        replace HB := Lib.hid (bstep (bput3 HB.out le1 _ _ _) hv3)
        clear hv3
        have q00 := (K0.out).reads (i := 0) rfl; have q01 := (K0.out).reads (i := 1) rfl; have q02 := (K0.out).reads (i := 2) rfl
        have q10 := (K1.out).reads (i := 0) rfl; have q11 := (K1.out).reads (i := 1) rfl; have q12 := (K1.out).reads (i := 2) rfl
        go_wp2_with fail
        refine (D2.out _).mono ?_
        rintro e v4 ⟨rfl, hv4⟩
        replace K0 := Lib.hid ((K0.out).kept hv4 (K0.out).inside)
        replace K1 := Lib.hid ((K1.out).kept hv4 (K1.out).inside)
        replace KZ := Lib.hid ((KZ.out).kept hv4 (KZ.out).inside)
        replace HB := Lib.hid (bstep HB.out hv4)
        clear hv4
        have r00 := (K0.out).reads (i := 0) rfl; have r01 := (K0.out).reads (i := 1) rfl; have r02 := (K0.out).reads (i := 2) rfl
        have r10 := (K1.out).reads (i := 0) rfl; have r11 := (K1.out).reads (i := 1) rfl; have r12 := (K1.out).reads (i := 2) rfl
        have k0 := (KZ.out).reads (i := 0) rfl; have k1 := (KZ.out).reads (i := 1) rfl; have k2 := (KZ.out).reads (i := 2) rfl
        have f0 := (KZ.out).open_ 0; have f1 := (KZ.out).open_ 1; have f2 := (KZ.out).open_ 2
        go_wp2
        refine bodyPost_ret (v := .agg #[.int .i64 0, .int .i64 0, .bool false]) (by simp [results, Try.results33, go_sem, k0, k1, k2]) rfl ⟨?_, ?_⟩
        · exact (by rw [H.out]; rfl)
        · exact bput3 HB.out le2 _ _ _
      · cases B2
        · have H := Lib.hid (show addS s o = unS by rw [HS.out]; rfl)
          clear HS
          go_enter Try.func33, Try.ntmps33
          go_wp2_with fail
          refine (C0.out _).mono ?_
          rintro e v1 ⟨rfl, hv1⟩
          replace K0 := Lib.hid ((K0.out).kept hv1 (K0.out).inside)
          replace K1 := Lib.hid ((K1.out).kept hv1 (K1.out).inside)
          replace KZ := Lib.hid ((KZ.out).kept hv1 (KZ.out).inside)
          replace HB := Lib.hid (bstep HB.out hv1)
          clear hv1
          have x00 := (K0.out).reads (i := 0) rfl; have x01 := (K0.out).reads (i := 1) rfl; have x02 := (K0.out).reads (i := 2) rfl
          have y00 := (K0.out).open_ 0; have y01 := (K0.out).open_ 1; have y02 := (K0.out).open_ 2
          have z00 := (K1.out).reads (i := 0) rfl; have z01 := (K1.out).reads (i := 1) rfl; have z02 := (K1.out).reads (i := 2) rfl
          go_wp2_with fail
          refine (C1.out _).mono ?_
          rintro e v2 ⟨rfl, hv2⟩
          replace K0 := Lib.hid (((K0.out).put3 (.int .i64 a) (.int .i64 b) (.bool true)).kept hv2 ((K0.out).put3 (.int .i64 a) (.int .i64 b) (.bool true)).inside)
          replace K1 := Lib.hid (((K1.out).aside3 (g := w.heap.size) (by omega) (.int .i64 a) (.int .i64 b) (.bool true)).kept hv2 ((K1.out).aside3 (g := w.heap.size) (by omega) (.int .i64 a) (.int .i64 b) (.bool true)).inside)
          replace KZ := Lib.hid (((KZ.out).aside3 (g := w.heap.size) (by omega) (.int .i64 a) (.int .i64 b) (.bool true)).kept hv2 ((KZ.out).aside3 (g := w.heap.size) (by omega) (.int .i64 a) (.int .i64 b) (.bool true)).inside)
          replace HB := Lib.hid (bstep (bput3 HB.out le0 _ _ _) hv2)
          clear hv2
          have x10 := (K1.out).reads (i := 0) rfl; have x11 := (K1.out).reads (i := 1) rfl; have x12 := (K1.out).reads (i := 2) rfl
          have y10 := (K1.out).open_ 0; have y11 := (K1.out).open_ 1; have y12 := (K1.out).open_ 2
          have z10 := (K0.out).reads (i := 0) rfl; have z11 := (K0.out).reads (i := 1) rfl; have z12 := (K0.out).reads (i := 2) rfl
          go_wp2_with fail
          refine (D1.out _).mono ?_
          rintro e v3 ⟨rfl, hv3⟩
          replace K0 := Lib.hid (((K0.out).aside3 (g := w.heap.size + 1) (by omega) (.int .i64 c) (.int .i64 d) (.bool true)).kept hv3 ((K0.out).aside3 (g := w.heap.size + 1) (by omega) (.int .i64 c) (.int .i64 d) (.bool true)).inside)
          replace K1 := Lib.hid (((K1.out).put3 (.int .i64 c) (.int .i64 d) (.bool true)).kept hv3 ((K1.out).put3 (.int .i64 c) (.int .i64 d) (.bool true)).inside)
          replace KZ := Lib.hid (((KZ.out).aside3 (g := w.heap.size + 1) (by omega) (.int .i64 c) (.int .i64 d) (.bool true)).kept hv3 ((KZ.out).aside3 (g := w.heap.size + 1) (by omega) (.int .i64 c) (.int .i64 d) (.bool true)).inside)
          replace HB := Lib.hid (bstep (bput3 HB.out le1 _ _ _) hv3)
          clear hv3
          have q00 := (K0.out).reads (i := 0) rfl; have q01 := (K0.out).reads (i := 1) rfl; have q02 := (K0.out).reads (i := 2) rfl
          have q10 := (K1.out).reads (i := 0) rfl; have q11 := (K1.out).reads (i := 1) rfl; have q12 := (K1.out).reads (i := 2) rfl
          go_wp2_with fail
          refine (D2.out _).mono ?_
          rintro e v4 ⟨rfl, hv4⟩
          replace K0 := Lib.hid ((K0.out).kept hv4 (K0.out).inside)
          replace K1 := Lib.hid ((K1.out).kept hv4 (K1.out).inside)
          replace KZ := Lib.hid ((KZ.out).kept hv4 (KZ.out).inside)
          replace HB := Lib.hid (bstep HB.out hv4)
          clear hv4
          have r00 := (K0.out).reads (i := 0) rfl; have r01 := (K0.out).reads (i := 1) rfl; have r02 := (K0.out).reads (i := 2) rfl
          have r10 := (K1.out).reads (i := 0) rfl; have r11 := (K1.out).reads (i := 1) rfl; have r12 := (K1.out).reads (i := 2) rfl
          have k0 := (KZ.out).reads (i := 0) rfl; have k1 := (KZ.out).reads (i := 1) rfl; have k2 := (KZ.out).reads (i := 2) rfl
          have f0 := (KZ.out).open_ 0; have f1 := (KZ.out).open_ 1; have f2 := (KZ.out).open_ 2
          go_wp2
          refine bodyPost_ret (v := .agg #[.int .i64 0, .int .i64 0, .bool false]) (by simp [results, Try.results33, go_sem, k0, k1, k2]) rfl ⟨?_, ?_⟩
          · exact (by rw [H.out]; rfl)
          · exact bput3 HB.out le2 _ _ _
        · have H := Lib.hid (show addS s o = X by rw [HS.out]; exact HX.out)
          clear HS
          go_enter Try.func33, Try.ntmps33
          go_wp2_with fail
          refine (C0.out _).mono ?_
          rintro e v1 ⟨rfl, hv1⟩
          replace K0 := Lib.hid ((K0.out).kept hv1 (K0.out).inside)
          replace K1 := Lib.hid ((K1.out).kept hv1 (K1.out).inside)
          replace KZ := Lib.hid ((KZ.out).kept hv1 (KZ.out).inside)
          replace HB := Lib.hid (bstep HB.out hv1)
          clear hv1
          have x00 := (K0.out).reads (i := 0) rfl; have x01 := (K0.out).reads (i := 1) rfl; have x02 := (K0.out).reads (i := 2) rfl
          have y00 := (K0.out).open_ 0; have y01 := (K0.out).open_ 1; have y02 := (K0.out).open_ 2
          have z00 := (K1.out).reads (i := 0) rfl; have z01 := (K1.out).reads (i := 1) rfl; have z02 := (K1.out).reads (i := 2) rfl
          go_wp2_with fail
          refine (C1.out _).mono ?_
          rintro e v2 ⟨rfl, hv2⟩
          replace K0 := Lib.hid (((K0.out).put3 (.int .i64 a) (.int .i64 b) (.bool true)).kept hv2 ((K0.out).put3 (.int .i64 a) (.int .i64 b) (.bool true)).inside)
          replace K1 := Lib.hid (((K1.out).aside3 (g := w.heap.size) (by omega) (.int .i64 a) (.int .i64 b) (.bool true)).kept hv2 ((K1.out).aside3 (g := w.heap.size) (by omega) (.int .i64 a) (.int .i64 b) (.bool true)).inside)
          replace KZ := Lib.hid (((KZ.out).aside3 (g := w.heap.size) (by omega) (.int .i64 a) (.int .i64 b) (.bool true)).kept hv2 ((KZ.out).aside3 (g := w.heap.size) (by omega) (.int .i64 a) (.int .i64 b) (.bool true)).inside)
          replace HB := Lib.hid (bstep (bput3 HB.out le0 _ _ _) hv2)
          clear hv2
          have x10 := (K1.out).reads (i := 0) rfl; have x11 := (K1.out).reads (i := 1) rfl; have x12 := (K1.out).reads (i := 2) rfl
          have y10 := (K1.out).open_ 0; have y11 := (K1.out).open_ 1; have y12 := (K1.out).open_ 2
          have z10 := (K0.out).reads (i := 0) rfl; have z11 := (K0.out).reads (i := 1) rfl; have z12 := (K0.out).reads (i := 2) rfl
          go_wp2_with fail
          refine (D1.out _).mono ?_
          rintro e v3 ⟨rfl, hv3⟩
          replace K0 := Lib.hid (((K0.out).aside3 (g := w.heap.size + 1) (by omega) (.int .i64 c) (.int .i64 d) (.bool true)).kept hv3 ((K0.out).aside3 (g := w.heap.size + 1) (by omega) (.int .i64 c) (.int .i64 d) (.bool true)).inside)
          replace K1 := Lib.hid (((K1.out).put3 (.int .i64 c) (.int .i64 d) (.bool true)).kept hv3 ((K1.out).put3 (.int .i64 c) (.int .i64 d) (.bool true)).inside)
          replace KZ := Lib.hid (((KZ.out).aside3 (g := w.heap.size + 1) (by omega) (.int .i64 c) (.int .i64 d) (.bool true)).kept hv3 ((KZ.out).aside3 (g := w.heap.size + 1) (by omega) (.int .i64 c) (.int .i64 d) (.bool true)).inside)
          replace HB := Lib.hid (bstep (bput3 HB.out le1 _ _ _) hv3)
          clear hv3
          have q00 := (K0.out).reads (i := 0) rfl; have q01 := (K0.out).reads (i := 1) rfl; have q02 := (K0.out).reads (i := 2) rfl
          have q10 := (K1.out).reads (i := 0) rfl; have q11 := (K1.out).reads (i := 1) rfl; have q12 := (K1.out).reads (i := 2) rfl
          go_wp2_with fail
          refine (D2.out _).mono ?_
          rintro e v4 ⟨rfl, hv4⟩
          replace K0 := Lib.hid ((K0.out).kept hv4 (K0.out).inside)
          replace K1 := Lib.hid ((K1.out).kept hv4 (K1.out).inside)
          replace KZ := Lib.hid ((KZ.out).kept hv4 (KZ.out).inside)
          replace HB := Lib.hid (bstep HB.out hv4)
          clear hv4
          have r00 := (K0.out).reads (i := 0) rfl; have r01 := (K0.out).reads (i := 1) rfl; have r02 := (K0.out).reads (i := 2) rfl
          have r10 := (K1.out).reads (i := 0) rfl; have r11 := (K1.out).reads (i := 1) rfl; have r12 := (K1.out).reads (i := 2) rfl
          go_wp2_with fail
          refine (CO.out _).mono ?_
          rintro e v5 ⟨rfl, hv5⟩
          replace K0 := Lib.hid ((K0.out).kept hv5 (K0.out).inside)
          replace K1 := Lib.hid ((K1.out).kept hv5 (K1.out).inside)
          replace KZ := Lib.hid ((KZ.out).kept hv5 (KZ.out).inside)
          replace HB := Lib.hid (bstep HB.out hv5)
          clear hv5
          have k0 := (KZ.out).reads (i := 0) rfl; have k1 := (KZ.out).reads (i := 1) rfl; have k2 := (KZ.out).reads (i := 2) rfl
          have f0 := (KZ.out).open_ 0; have f1 := (KZ.out).open_ 1; have f2 := (KZ.out).open_ 2
          go_wp2
          refine bodyPost_ret (v := .agg #[.int .i64 (X).lo, .int .i64 (X).hi, .bool (X).k]) (by simp [results, Try.results33, go_sem, k0, k1, k2]) rfl ⟨?_, ?_⟩
          · exact ret_sp H.out.symm
          · exact bput3 HB.out le2 _ _ _

set_option maxHeartbeats 2000000 in
theorem rwider3_any (s : Sp) (l h : Int) (w : World) :
    Calls Try.prog 55 #[.agg #[.int .i64 (s).lo, .int .i64 (s).hi, .bool (s).k], .int .i64 l, .int .i64 h] w fun e w' => e = .returned (.agg #[.int .i64 (widerS s l h).lo, .int .i64 (widerS s l h).hi, .bool (widerS s l h).k]) ∧ Below w.heap.size w w' := by
  obtain ⟨a, b, k, HT0⟩ : ∃ a b k, Hid (tldS s = ⟨a, b, k⟩) := ⟨_, _, _, Lib.hid rfl⟩
  have C0 : Hid (∀ w, Calls Try.prog 56 #[.agg #[.int .i64 (s).lo, .int .i64 (s).hi, .bool (s).k]] w fun e w' => e = .returned (.agg #[.int .i64 a, .int .i64 b, .bool k]) ∧ Below w.heap.size w w') := by
    have h := rtold3_any s
    rw [HT0.out] at h
    exact h
  have K0 := Lib.hid (Holds.fresh w 29 #[.int .i64 s.lo, .int .i64 s.hi, .bool s.k] (g := w.heap.size) (by simp))
  replace K0 := Lib.hid ((K0.out).laid (.cells #[.int .i64 0, .int .i64 0, .bool false] 29))
  have KZ := Lib.hid (Holds.fresh (w.alloc (.cells #[.int .i64 s.lo, .int .i64 s.hi, .bool s.k] 29)) 29 #[.int .i64 0, .int .i64 0, .bool false] (g := w.heap.size + 1) (by simp))
  have HB := Lib.hid (bstep (bnew w (.cells #[.int .i64 s.lo, .int .i64 s.hi, .bool s.k] 29)) (bnew _ (.cells #[.int .i64 0, .int .i64 0, .bool false] 29)))
  have le0 : w.heap.size ≤ w.heap.size := Nat.le_refl _
  have le1 : w.heap.size ≤ w.heap.size + 1 := by omega
  have le2 : w.heap.size ≤ w.heap.size + 1 + 1 := by omega
  obtain ⟨x, Hx⟩ : ∃ x, Hid (told (subB a l) (a - l) = x) := ⟨_, Lib.hid rfl⟩
  obtain ⟨y, Hy⟩ : ∃ y, Hid (told (addB b h) (b + h) = y) := ⟨_, Lib.hid rfl⟩
  obtain ⟨B1, HB1⟩ : ∃ B, Hid ((subB a l) = B) := ⟨_, Lib.hid rfl⟩
  obtain ⟨B2, HB2⟩ : ∃ B, Hid ((addB b h) = B) := ⟨_, Lib.hid rfl⟩
  obtain ⟨X, HX⟩ : ∃ X, Hid (ofS x y = X) := ⟨_, Lib.hid rfl⟩
  have D1 := Lib.hid (rsub_any a l)
  rw [Hx.out, HB1.out] at D1
  have D2 := Lib.hid (radd_any b h)
  rw [Hy.out, HB2.out] at D2
  have CO := Lib.hid (rof3_any x y)
  rw [HX.out] at CO
  have HS : Hid (widerS s l h = if l < 0 ∨ h < 0 then unS else betS (k) B1 B2 x y) := by
    rw [Hid, widerS_told, HT0.out]
    rw [← Hx.out, ← Hy.out, ← HB1.out, ← HB2.out]
  clear Hx Hy HB1 HB2 HT0
  cases k
  · have H := Lib.hid (show widerS s l h = unS by rw [HS.out]; split <;> rfl)
    clear HS
    go_enter Try.func55, Try.ntmps55
    go_wp2_with fail
    refine (C0.out _).mono ?_
    rintro e v1 ⟨rfl, hv1⟩
    replace K0 := Lib.hid ((K0.out).kept hv1 (K0.out).inside)
    replace KZ := Lib.hid ((KZ.out).kept hv1 (KZ.out).inside)
    replace HB := Lib.hid (bstep HB.out hv1)
    clear hv1
    have x00 := (K0.out).reads (i := 0) rfl; have x01 := (K0.out).reads (i := 1) rfl; have x02 := (K0.out).reads (i := 2) rfl
    have y00 := (K0.out).open_ 0; have y01 := (K0.out).open_ 1; have y02 := (K0.out).open_ 2
    go_wp2_with fail
    refine (D1.out _).mono ?_
    rintro e v2 ⟨rfl, hv2⟩
    replace K0 := Lib.hid (((K0.out).put3 (.int .i64 a) (.int .i64 b) (.bool false)).kept hv2 ((K0.out).put3 (.int .i64 a) (.int .i64 b) (.bool false)).inside)
    replace KZ := Lib.hid (((KZ.out).aside3 (g := w.heap.size) (by omega) (.int .i64 a) (.int .i64 b) (.bool false)).kept hv2 ((KZ.out).aside3 (g := w.heap.size) (by omega) (.int .i64 a) (.int .i64 b) (.bool false)).inside)
    replace HB := Lib.hid (bstep (bput3 HB.out le0 _ _ _) hv2)
    clear hv2
    have q00 := (K0.out).reads (i := 0) rfl; have q01 := (K0.out).reads (i := 1) rfl; have q02 := (K0.out).reads (i := 2) rfl
    go_wp2_with fail
    refine (D2.out _).mono ?_
    rintro e v3 ⟨rfl, hv3⟩
    replace K0 := Lib.hid ((K0.out).kept hv3 (K0.out).inside)
    replace KZ := Lib.hid ((KZ.out).kept hv3 (KZ.out).inside)
    replace HB := Lib.hid (bstep HB.out hv3)
    clear hv3
    have r00 := (K0.out).reads (i := 0) rfl; have r01 := (K0.out).reads (i := 1) rfl; have r02 := (K0.out).reads (i := 2) rfl
    have k0 := (KZ.out).reads (i := 0) rfl; have k1 := (KZ.out).reads (i := 1) rfl; have k2 := (KZ.out).reads (i := 2) rfl
    have f0 := (KZ.out).open_ 0; have f1 := (KZ.out).open_ 1; have f2 := (KZ.out).open_ 2
    go_wp2
    refine bodyPost_ret (v := .agg #[.int .i64 0, .int .i64 0, .bool false]) (by simp [results, Try.results55, go_sem, k0, k1, k2]) rfl ⟨?_, ?_⟩
    · exact (by rw [H.out]; rfl)
    · exact bput3 HB.out le1 _ _ _
  · by_cases h0 : l < 0
    · have H := Lib.hid (show widerS s l h = unS by rw [HS.out, if_pos (Or.inl h0)])
      clear HS
      go_enter Try.func55, Try.ntmps55
      go_wp2_with fail
      refine (C0.out _).mono ?_
      rintro e v1 ⟨rfl, hv1⟩
      replace K0 := Lib.hid ((K0.out).kept hv1 (K0.out).inside)
      replace KZ := Lib.hid ((KZ.out).kept hv1 (KZ.out).inside)
      replace HB := Lib.hid (bstep HB.out hv1)
      clear hv1
      have x00 := (K0.out).reads (i := 0) rfl; have x01 := (K0.out).reads (i := 1) rfl; have x02 := (K0.out).reads (i := 2) rfl
      have y00 := (K0.out).open_ 0; have y01 := (K0.out).open_ 1; have y02 := (K0.out).open_ 2
      go_wp2_with fail
      refine (D1.out _).mono ?_
      rintro e v2 ⟨rfl, hv2⟩
      replace K0 := Lib.hid (((K0.out).put3 (.int .i64 a) (.int .i64 b) (.bool true)).kept hv2 ((K0.out).put3 (.int .i64 a) (.int .i64 b) (.bool true)).inside)
      replace KZ := Lib.hid (((KZ.out).aside3 (g := w.heap.size) (by omega) (.int .i64 a) (.int .i64 b) (.bool true)).kept hv2 ((KZ.out).aside3 (g := w.heap.size) (by omega) (.int .i64 a) (.int .i64 b) (.bool true)).inside)
      replace HB := Lib.hid (bstep (bput3 HB.out le0 _ _ _) hv2)
      clear hv2
      have q00 := (K0.out).reads (i := 0) rfl; have q01 := (K0.out).reads (i := 1) rfl; have q02 := (K0.out).reads (i := 2) rfl
      go_wp2_with fail
      refine (D2.out _).mono ?_
      rintro e v3 ⟨rfl, hv3⟩
      replace K0 := Lib.hid ((K0.out).kept hv3 (K0.out).inside)
      replace KZ := Lib.hid ((KZ.out).kept hv3 (KZ.out).inside)
      replace HB := Lib.hid (bstep HB.out hv3)
      clear hv3
      have r00 := (K0.out).reads (i := 0) rfl; have r01 := (K0.out).reads (i := 1) rfl; have r02 := (K0.out).reads (i := 2) rfl
      have k0 := (KZ.out).reads (i := 0) rfl; have k1 := (KZ.out).reads (i := 1) rfl; have k2 := (KZ.out).reads (i := 2) rfl
      have f0 := (KZ.out).open_ 0; have f1 := (KZ.out).open_ 1; have f2 := (KZ.out).open_ 2
      go_wp2
      refine bodyPost_ret (v := .agg #[.int .i64 0, .int .i64 0, .bool false]) (by simp [results, Try.results55, go_sem, k0, k1, k2]) rfl ⟨?_, ?_⟩
      · exact (by rw [H.out]; rfl)
      · exact bput3 HB.out le1 _ _ _
    · have h0' : decide (l < 0) = false := by simpa using h0
      by_cases h1 : h < 0
      · have H := Lib.hid (show widerS s l h = unS by rw [HS.out, if_pos (Or.inr h1)])
        clear HS
        go_enter Try.func55, Try.ntmps55
        go_wp2_with fail
        refine (C0.out _).mono ?_
        rintro e v1 ⟨rfl, hv1⟩
        replace K0 := Lib.hid ((K0.out).kept hv1 (K0.out).inside)
        replace KZ := Lib.hid ((KZ.out).kept hv1 (KZ.out).inside)
        replace HB := Lib.hid (bstep HB.out hv1)
        clear hv1
        have x00 := (K0.out).reads (i := 0) rfl; have x01 := (K0.out).reads (i := 1) rfl; have x02 := (K0.out).reads (i := 2) rfl
        have y00 := (K0.out).open_ 0; have y01 := (K0.out).open_ 1; have y02 := (K0.out).open_ 2
        go_wp2_with fail
        refine (D1.out _).mono ?_
        rintro e v2 ⟨rfl, hv2⟩
        replace K0 := Lib.hid (((K0.out).put3 (.int .i64 a) (.int .i64 b) (.bool true)).kept hv2 ((K0.out).put3 (.int .i64 a) (.int .i64 b) (.bool true)).inside)
        replace KZ := Lib.hid (((KZ.out).aside3 (g := w.heap.size) (by omega) (.int .i64 a) (.int .i64 b) (.bool true)).kept hv2 ((KZ.out).aside3 (g := w.heap.size) (by omega) (.int .i64 a) (.int .i64 b) (.bool true)).inside)
        replace HB := Lib.hid (bstep (bput3 HB.out le0 _ _ _) hv2)
        clear hv2
        have q00 := (K0.out).reads (i := 0) rfl; have q01 := (K0.out).reads (i := 1) rfl; have q02 := (K0.out).reads (i := 2) rfl
        go_wp2_with fail
        refine (D2.out _).mono ?_
        rintro e v3 ⟨rfl, hv3⟩
        replace K0 := Lib.hid ((K0.out).kept hv3 (K0.out).inside)
        replace KZ := Lib.hid ((KZ.out).kept hv3 (KZ.out).inside)
        replace HB := Lib.hid (bstep HB.out hv3)
        clear hv3
        have r00 := (K0.out).reads (i := 0) rfl; have r01 := (K0.out).reads (i := 1) rfl; have r02 := (K0.out).reads (i := 2) rfl
        have k0 := (KZ.out).reads (i := 0) rfl; have k1 := (KZ.out).reads (i := 1) rfl; have k2 := (KZ.out).reads (i := 2) rfl
        have f0 := (KZ.out).open_ 0; have f1 := (KZ.out).open_ 1; have f2 := (KZ.out).open_ 2
        go_wp2
        refine bodyPost_ret (v := .agg #[.int .i64 0, .int .i64 0, .bool false]) (by simp [results, Try.results55, go_sem, k0, k1, k2]) rfl ⟨?_, ?_⟩
        · exact (by rw [H.out]; rfl)
        · exact bput3 HB.out le1 _ _ _
      · have h1' : decide (h < 0) = false := by simpa using h1
        have HN : Hid (¬ (l < 0 ∨ h < 0)) := by rw [Hid]; omega
        cases B1
        · have H := Lib.hid (show widerS s l h = unS by rw [HS.out, if_neg HN.out]; rfl)
          clear HS
          go_enter Try.func55, Try.ntmps55
          go_wp2_with fail
          refine (C0.out _).mono ?_
          rintro e v1 ⟨rfl, hv1⟩
          replace K0 := Lib.hid ((K0.out).kept hv1 (K0.out).inside)
          replace KZ := Lib.hid ((KZ.out).kept hv1 (KZ.out).inside)
          replace HB := Lib.hid (bstep HB.out hv1)
          clear hv1
          have x00 := (K0.out).reads (i := 0) rfl; have x01 := (K0.out).reads (i := 1) rfl; have x02 := (K0.out).reads (i := 2) rfl
          have y00 := (K0.out).open_ 0; have y01 := (K0.out).open_ 1; have y02 := (K0.out).open_ 2
          go_wp2_with fail
          refine (D1.out _).mono ?_
          rintro e v2 ⟨rfl, hv2⟩
          replace K0 := Lib.hid (((K0.out).put3 (.int .i64 a) (.int .i64 b) (.bool true)).kept hv2 ((K0.out).put3 (.int .i64 a) (.int .i64 b) (.bool true)).inside)
          replace KZ := Lib.hid (((KZ.out).aside3 (g := w.heap.size) (by omega) (.int .i64 a) (.int .i64 b) (.bool true)).kept hv2 ((KZ.out).aside3 (g := w.heap.size) (by omega) (.int .i64 a) (.int .i64 b) (.bool true)).inside)
          replace HB := Lib.hid (bstep (bput3 HB.out le0 _ _ _) hv2)
          clear hv2
          have q00 := (K0.out).reads (i := 0) rfl; have q01 := (K0.out).reads (i := 1) rfl; have q02 := (K0.out).reads (i := 2) rfl
          go_wp2_with fail
          refine (D2.out _).mono ?_
          rintro e v3 ⟨rfl, hv3⟩
          replace K0 := Lib.hid ((K0.out).kept hv3 (K0.out).inside)
          replace KZ := Lib.hid ((KZ.out).kept hv3 (KZ.out).inside)
          replace HB := Lib.hid (bstep HB.out hv3)
          clear hv3
          have r00 := (K0.out).reads (i := 0) rfl; have r01 := (K0.out).reads (i := 1) rfl; have r02 := (K0.out).reads (i := 2) rfl
          have k0 := (KZ.out).reads (i := 0) rfl; have k1 := (KZ.out).reads (i := 1) rfl; have k2 := (KZ.out).reads (i := 2) rfl
          have f0 := (KZ.out).open_ 0; have f1 := (KZ.out).open_ 1; have f2 := (KZ.out).open_ 2
          go_wp2
          refine bodyPost_ret (v := .agg #[.int .i64 0, .int .i64 0, .bool false]) (by simp [results, Try.results55, go_sem, k0, k1, k2]) rfl ⟨?_, ?_⟩
          · exact (by rw [H.out]; rfl)
          · exact bput3 HB.out le1 _ _ _
        · cases B2
          · have H := Lib.hid (show widerS s l h = unS by rw [HS.out, if_neg HN.out]; rfl)
            clear HS
            go_enter Try.func55, Try.ntmps55
            go_wp2_with fail
            refine (C0.out _).mono ?_
            rintro e v1 ⟨rfl, hv1⟩
            replace K0 := Lib.hid ((K0.out).kept hv1 (K0.out).inside)
            replace KZ := Lib.hid ((KZ.out).kept hv1 (KZ.out).inside)
            replace HB := Lib.hid (bstep HB.out hv1)
            clear hv1
            have x00 := (K0.out).reads (i := 0) rfl; have x01 := (K0.out).reads (i := 1) rfl; have x02 := (K0.out).reads (i := 2) rfl
            have y00 := (K0.out).open_ 0; have y01 := (K0.out).open_ 1; have y02 := (K0.out).open_ 2
            go_wp2_with fail
            refine (D1.out _).mono ?_
            rintro e v2 ⟨rfl, hv2⟩
            replace K0 := Lib.hid (((K0.out).put3 (.int .i64 a) (.int .i64 b) (.bool true)).kept hv2 ((K0.out).put3 (.int .i64 a) (.int .i64 b) (.bool true)).inside)
            replace KZ := Lib.hid (((KZ.out).aside3 (g := w.heap.size) (by omega) (.int .i64 a) (.int .i64 b) (.bool true)).kept hv2 ((KZ.out).aside3 (g := w.heap.size) (by omega) (.int .i64 a) (.int .i64 b) (.bool true)).inside)
            replace HB := Lib.hid (bstep (bput3 HB.out le0 _ _ _) hv2)
            clear hv2
            have q00 := (K0.out).reads (i := 0) rfl; have q01 := (K0.out).reads (i := 1) rfl; have q02 := (K0.out).reads (i := 2) rfl
            go_wp2_with fail
            refine (D2.out _).mono ?_
            rintro e v3 ⟨rfl, hv3⟩
            replace K0 := Lib.hid ((K0.out).kept hv3 (K0.out).inside)
            replace KZ := Lib.hid ((KZ.out).kept hv3 (KZ.out).inside)
            replace HB := Lib.hid (bstep HB.out hv3)
            clear hv3
            have r00 := (K0.out).reads (i := 0) rfl; have r01 := (K0.out).reads (i := 1) rfl; have r02 := (K0.out).reads (i := 2) rfl
            have k0 := (KZ.out).reads (i := 0) rfl; have k1 := (KZ.out).reads (i := 1) rfl; have k2 := (KZ.out).reads (i := 2) rfl
            have f0 := (KZ.out).open_ 0; have f1 := (KZ.out).open_ 1; have f2 := (KZ.out).open_ 2
            go_wp2
            refine bodyPost_ret (v := .agg #[.int .i64 0, .int .i64 0, .bool false]) (by simp [results, Try.results55, go_sem, k0, k1, k2]) rfl ⟨?_, ?_⟩
            · exact (by rw [H.out]; rfl)
            · exact bput3 HB.out le1 _ _ _
          · have H := Lib.hid (show widerS s l h = X by rw [HS.out, if_neg HN.out]; exact HX.out)
            clear HS
            go_enter Try.func55, Try.ntmps55
            go_wp2_with fail
            refine (C0.out _).mono ?_
            rintro e v1 ⟨rfl, hv1⟩
            replace K0 := Lib.hid ((K0.out).kept hv1 (K0.out).inside)
            replace KZ := Lib.hid ((KZ.out).kept hv1 (KZ.out).inside)
            replace HB := Lib.hid (bstep HB.out hv1)
            clear hv1
            have x00 := (K0.out).reads (i := 0) rfl; have x01 := (K0.out).reads (i := 1) rfl; have x02 := (K0.out).reads (i := 2) rfl
            have y00 := (K0.out).open_ 0; have y01 := (K0.out).open_ 1; have y02 := (K0.out).open_ 2
            go_wp2_with fail
            refine (D1.out _).mono ?_
            rintro e v2 ⟨rfl, hv2⟩
            replace K0 := Lib.hid (((K0.out).put3 (.int .i64 a) (.int .i64 b) (.bool true)).kept hv2 ((K0.out).put3 (.int .i64 a) (.int .i64 b) (.bool true)).inside)
            replace KZ := Lib.hid (((KZ.out).aside3 (g := w.heap.size) (by omega) (.int .i64 a) (.int .i64 b) (.bool true)).kept hv2 ((KZ.out).aside3 (g := w.heap.size) (by omega) (.int .i64 a) (.int .i64 b) (.bool true)).inside)
            replace HB := Lib.hid (bstep (bput3 HB.out le0 _ _ _) hv2)
            clear hv2
            have q00 := (K0.out).reads (i := 0) rfl; have q01 := (K0.out).reads (i := 1) rfl; have q02 := (K0.out).reads (i := 2) rfl
            go_wp2_with fail
            refine (D2.out _).mono ?_
            rintro e v3 ⟨rfl, hv3⟩
            replace K0 := Lib.hid ((K0.out).kept hv3 (K0.out).inside)
            replace KZ := Lib.hid ((KZ.out).kept hv3 (KZ.out).inside)
            replace HB := Lib.hid (bstep HB.out hv3)
            clear hv3
            have r00 := (K0.out).reads (i := 0) rfl; have r01 := (K0.out).reads (i := 1) rfl; have r02 := (K0.out).reads (i := 2) rfl
            go_wp2_with fail
            refine (CO.out _).mono ?_
            rintro e v4 ⟨rfl, hv4⟩
            replace K0 := Lib.hid ((K0.out).kept hv4 (K0.out).inside)
            replace KZ := Lib.hid ((KZ.out).kept hv4 (KZ.out).inside)
            replace HB := Lib.hid (bstep HB.out hv4)
            clear hv4
            have k0 := (KZ.out).reads (i := 0) rfl; have k1 := (KZ.out).reads (i := 1) rfl; have k2 := (KZ.out).reads (i := 2) rfl
            have f0 := (KZ.out).open_ 0; have f1 := (KZ.out).open_ 1; have f2 := (KZ.out).open_ 2
            go_wp2
            refine bodyPost_ret (v := .agg #[.int .i64 (X).lo, .int .i64 (X).hi, .bool (X).k]) (by simp [results, Try.results55, go_sem, k0, k1, k2]) rfl ⟨?_, ?_⟩
            · exact ret_sp H.out.symm
            · exact bput3 HB.out le1 _ _ _

set_option maxHeartbeats 2000000 in
theorem rmeet3_any (s o : Sp) (w : World) :
    Calls Try.prog 48 #[.agg #[.int .i64 (s).lo, .int .i64 (s).hi, .bool (s).k], .agg #[.int .i64 (o).lo, .int .i64 (o).hi, .bool (o).k]] w fun e w' => e = .returned (.agg #[.int .i64 (meetS s o).lo, .int .i64 (meetS s o).hi, .bool (meetS s o).k]) ∧ Below w.heap.size w w' := by
  obtain ⟨a, b, k, HT0⟩ : ∃ a b k, Hid (tldS s = ⟨a, b, k⟩) := ⟨_, _, _, Lib.hid rfl⟩
  have C0 : Hid (∀ w, Calls Try.prog 56 #[.agg #[.int .i64 (s).lo, .int .i64 (s).hi, .bool (s).k]] w fun e w' => e = .returned (.agg #[.int .i64 a, .int .i64 b, .bool k]) ∧ Below w.heap.size w w') := by
    have h := rtold3_any s
    rw [HT0.out] at h
    exact h
  obtain ⟨c, d, j, HT1⟩ : ∃ c d j, Hid (tldS o = ⟨c, d, j⟩) := ⟨_, _, _, Lib.hid rfl⟩
  have C1 : Hid (∀ w, Calls Try.prog 56 #[.agg #[.int .i64 (o).lo, .int .i64 (o).hi, .bool (o).k]] w fun e w' => e = .returned (.agg #[.int .i64 c, .int .i64 d, .bool j]) ∧ Below w.heap.size w w') := by
    have h := rtold3_any o
    rw [HT1.out] at h
    exact h
  have K0 := Lib.hid (Holds.fresh w 29 #[.int .i64 s.lo, .int .i64 s.hi, .bool s.k] (g := w.heap.size) (by simp))
  replace K0 := Lib.hid ((K0.out).laid (.cells #[.int .i64 o.lo, .int .i64 o.hi, .bool o.k] 29))
  replace K0 := Lib.hid ((K0.out).laid (.cells #[.int .i64 0, .int .i64 0, .bool false] 29))
  have K1 := Lib.hid (Holds.fresh (w.alloc (.cells #[.int .i64 s.lo, .int .i64 s.hi, .bool s.k] 29)) 29 #[.int .i64 o.lo, .int .i64 o.hi, .bool o.k] (g := w.heap.size + 1) (by simp))
  replace K1 := Lib.hid ((K1.out).laid (.cells #[.int .i64 0, .int .i64 0, .bool false] 29))
  have KZ := Lib.hid (Holds.fresh ((w.alloc (.cells #[.int .i64 s.lo, .int .i64 s.hi, .bool s.k] 29)).alloc (.cells #[.int .i64 o.lo, .int .i64 o.hi, .bool o.k] 29)) 29 #[.int .i64 0, .int .i64 0, .bool false] (g := w.heap.size + 1 + 1) (by simp))
  have HB := Lib.hid (bstep (bstep (bnew w (.cells #[.int .i64 s.lo, .int .i64 s.hi, .bool s.k] 29)) (bnew _ (.cells #[.int .i64 o.lo, .int .i64 o.hi, .bool o.k] 29))) (bnew _ (.cells #[.int .i64 0, .int .i64 0, .bool false] 29)))
  have ne0 : ¬ (w.heap.size = w.heap.size + 1 + 1) := by omega
  have ne1 : ¬ (w.heap.size + 1 + 1 = w.heap.size) := by omega
  have le0 : w.heap.size ≤ w.heap.size := Nat.le_refl _
  have le1 : w.heap.size ≤ w.heap.size + 1 := by omega
  have le2 : w.heap.size ≤ w.heap.size + 1 + 1 := by omega
  obtain ⟨X, HX⟩ : ∃ X, Hid (ofS (maxI a c) (minI b d) = X) := ⟨_, Lib.hid rfl⟩
  have CO : Hid (∀ p q, p = maxI a c → q = minI b d → ∀ w, Calls Try.prog 34 #[.int .i64 p, .int .i64 q] w fun e w' => e = .returned (.agg #[.int .i64 (X).lo, .int .i64 (X).hi, .bool (X).k]) ∧ Below w.heap.size w w') := by
    rw [← HX.out]
    rintro p q rfl rfl w
    exact rof3_any _ _ w
  have HS : Hid (meetS s o = if k then (if j then X else ⟨a, b, k⟩) else ⟨c, d, j⟩) := by
    rw [Hid, meetS_told, HT0.out, HT1.out, ← HX.out]
  clear HT0 HT1
  cases k
  · have H := Lib.hid (show meetS s o = ⟨c, d, j⟩ by rw [HS.out]; rfl)
    clear HS
    go_enter Try.func48, Try.ntmps48
    go_wp2_with fail
    refine (C0.out _).mono ?_
    rintro e v1 ⟨rfl, hv1⟩
    replace K0 := Lib.hid ((K0.out).kept hv1 (K0.out).inside)
    replace K1 := Lib.hid ((K1.out).kept hv1 (K1.out).inside)
    replace KZ := Lib.hid ((KZ.out).kept hv1 (KZ.out).inside)
    replace HB := Lib.hid (bstep HB.out hv1)
    clear hv1
    have x00 := (K0.out).reads (i := 0) rfl; have x01 := (K0.out).reads (i := 1) rfl; have x02 := (K0.out).reads (i := 2) rfl
    have y00 := (K0.out).open_ 0; have y01 := (K0.out).open_ 1; have y02 := (K0.out).open_ 2
    have z00 := (K1.out).reads (i := 0) rfl; have z01 := (K1.out).reads (i := 1) rfl; have z02 := (K1.out).reads (i := 2) rfl
    go_wp2_with fail
    refine (C1.out _).mono ?_
    rintro e v2 ⟨rfl, hv2⟩
    replace K0 := Lib.hid (((K0.out).put3 (.int .i64 a) (.int .i64 b) (.bool false)).kept hv2 ((K0.out).put3 (.int .i64 a) (.int .i64 b) (.bool false)).inside)
    replace K1 := Lib.hid (((K1.out).aside3 (g := w.heap.size) (by omega) (.int .i64 a) (.int .i64 b) (.bool false)).kept hv2 ((K1.out).aside3 (g := w.heap.size) (by omega) (.int .i64 a) (.int .i64 b) (.bool false)).inside)
    replace KZ := Lib.hid (((KZ.out).aside3 (g := w.heap.size) (by omega) (.int .i64 a) (.int .i64 b) (.bool false)).kept hv2 ((KZ.out).aside3 (g := w.heap.size) (by omega) (.int .i64 a) (.int .i64 b) (.bool false)).inside)
    replace HB := Lib.hid (bstep (bput3 HB.out le0 _ _ _) hv2)
    clear hv2
    have x10 := (K1.out).reads (i := 0) rfl; have x11 := (K1.out).reads (i := 1) rfl; have x12 := (K1.out).reads (i := 2) rfl
    have y10 := (K1.out).open_ 0; have y11 := (K1.out).open_ 1; have y12 := (K1.out).open_ 2
    have z10 := (K0.out).reads (i := 0) rfl; have z11 := (K0.out).reads (i := 1) rfl; have z12 := (K0.out).reads (i := 2) rfl
    have k0 := (KZ.out).reads (i := 0) rfl; have k1 := (KZ.out).reads (i := 1) rfl; have k2 := (KZ.out).reads (i := 2) rfl
    have f0 := (KZ.out).open_ 0; have f1 := (KZ.out).open_ 1; have f2 := (KZ.out).open_ 2
    go_wp2
    refine bodyPost_ret (v := .agg #[.int .i64 c, .int .i64 d, .bool j]) (by simp [results, Try.results48, go_sem, k0, k1, k2]) rfl ⟨?_, ?_⟩
    · exact (by rw [H.out])
    · exact bput3 (bput3 HB.out le1 _ _ _) le2 _ _ _
  · cases j
    · have H := Lib.hid (show meetS s o = ⟨a, b, true⟩ by rw [HS.out]; rfl)
      clear HS
      go_enter Try.func48, Try.ntmps48
      go_wp2_with fail
      refine (C0.out _).mono ?_
      rintro e v1 ⟨rfl, hv1⟩
      replace K0 := Lib.hid ((K0.out).kept hv1 (K0.out).inside)
      replace K1 := Lib.hid ((K1.out).kept hv1 (K1.out).inside)
      replace KZ := Lib.hid ((KZ.out).kept hv1 (KZ.out).inside)
      replace HB := Lib.hid (bstep HB.out hv1)
      clear hv1
      have x00 := (K0.out).reads (i := 0) rfl; have x01 := (K0.out).reads (i := 1) rfl; have x02 := (K0.out).reads (i := 2) rfl
      have y00 := (K0.out).open_ 0; have y01 := (K0.out).open_ 1; have y02 := (K0.out).open_ 2
      have z00 := (K1.out).reads (i := 0) rfl; have z01 := (K1.out).reads (i := 1) rfl; have z02 := (K1.out).reads (i := 2) rfl
      go_wp2_with fail
      refine (C1.out _).mono ?_
      rintro e v2 ⟨rfl, hv2⟩
      replace K0 := Lib.hid (((K0.out).put3 (.int .i64 a) (.int .i64 b) (.bool true)).kept hv2 ((K0.out).put3 (.int .i64 a) (.int .i64 b) (.bool true)).inside)
      replace K1 := Lib.hid (((K1.out).aside3 (g := w.heap.size) (by omega) (.int .i64 a) (.int .i64 b) (.bool true)).kept hv2 ((K1.out).aside3 (g := w.heap.size) (by omega) (.int .i64 a) (.int .i64 b) (.bool true)).inside)
      replace KZ := Lib.hid (((KZ.out).aside3 (g := w.heap.size) (by omega) (.int .i64 a) (.int .i64 b) (.bool true)).kept hv2 ((KZ.out).aside3 (g := w.heap.size) (by omega) (.int .i64 a) (.int .i64 b) (.bool true)).inside)
      replace HB := Lib.hid (bstep (bput3 HB.out le0 _ _ _) hv2)
      clear hv2
      have x10 := (K1.out).reads (i := 0) rfl; have x11 := (K1.out).reads (i := 1) rfl; have x12 := (K1.out).reads (i := 2) rfl
      have y10 := (K1.out).open_ 0; have y11 := (K1.out).open_ 1; have y12 := (K1.out).open_ 2
      have z10 := (K0.out).reads (i := 0) rfl; have z11 := (K0.out).reads (i := 1) rfl; have z12 := (K0.out).reads (i := 2) rfl
      have k0 := (KZ.out).reads (i := 0) rfl; have k1 := (KZ.out).reads (i := 1) rfl; have k2 := (KZ.out).reads (i := 2) rfl
      have f0 := (KZ.out).open_ 0; have f1 := (KZ.out).open_ 1; have f2 := (KZ.out).open_ 2
      go_wp2
      refine bodyPost_ret (v := .agg #[.int .i64 a, .int .i64 b, .bool true]) (by simp [results, Try.results48, go_sem, k0, k1, k2]) rfl ⟨?_, ?_⟩
      · exact (by rw [H.out])
      · exact bput3 (bput3 HB.out le1 _ _ _) le2 _ _ _
    · have H := Lib.hid (show meetS s o = X by rw [HS.out]; rfl)
      clear HS
      by_cases h1 : a < c <;> by_cases h2 : d < b
      all_goals
        go_enter Try.func48, Try.ntmps48
        go_wp2_with fail
        refine (C0.out _).mono ?_
        rintro e v1 ⟨rfl, hv1⟩
        replace K0 := Lib.hid ((K0.out).kept hv1 (K0.out).inside)
        replace K1 := Lib.hid ((K1.out).kept hv1 (K1.out).inside)
        replace KZ := Lib.hid ((KZ.out).kept hv1 (KZ.out).inside)
        replace HB := Lib.hid (bstep HB.out hv1)
        clear hv1
        have x00 := (K0.out).reads (i := 0) rfl; have x01 := (K0.out).reads (i := 1) rfl; have x02 := (K0.out).reads (i := 2) rfl
        have y00 := (K0.out).open_ 0; have y01 := (K0.out).open_ 1; have y02 := (K0.out).open_ 2
        have z00 := (K1.out).reads (i := 0) rfl; have z01 := (K1.out).reads (i := 1) rfl; have z02 := (K1.out).reads (i := 2) rfl
        go_wp2_with fail
        refine (C1.out _).mono ?_
        rintro e v2 ⟨rfl, hv2⟩
        replace K0 := Lib.hid (((K0.out).put3 (.int .i64 a) (.int .i64 b) (.bool true)).kept hv2 ((K0.out).put3 (.int .i64 a) (.int .i64 b) (.bool true)).inside)
        replace K1 := Lib.hid (((K1.out).aside3 (g := w.heap.size) (by omega) (.int .i64 a) (.int .i64 b) (.bool true)).kept hv2 ((K1.out).aside3 (g := w.heap.size) (by omega) (.int .i64 a) (.int .i64 b) (.bool true)).inside)
        replace KZ := Lib.hid (((KZ.out).aside3 (g := w.heap.size) (by omega) (.int .i64 a) (.int .i64 b) (.bool true)).kept hv2 ((KZ.out).aside3 (g := w.heap.size) (by omega) (.int .i64 a) (.int .i64 b) (.bool true)).inside)
        replace HB := Lib.hid (bstep (bput3 HB.out le0 _ _ _) hv2)
        clear hv2
        have x10 := (K1.out).reads (i := 0) rfl; have x11 := (K1.out).reads (i := 1) rfl; have x12 := (K1.out).reads (i := 2) rfl
        have y10 := (K1.out).open_ 0; have y11 := (K1.out).open_ 1; have y12 := (K1.out).open_ 2
        have z10 := (K0.out).reads (i := 0) rfl; have z11 := (K0.out).reads (i := 1) rfl; have z12 := (K0.out).reads (i := 2) rfl
        go_wp2_with fail
        refine (CO.out _ _ ?_ ?_ _).mono ?_
        · unfold maxI; split <;> omega
        · unfold minI; split <;> omega
        rintro e v9 ⟨rfl, hv9⟩
        replace K0 := Lib.hid (((K0.out).aside3 (g := w.heap.size + 1) (by omega) (.int .i64 c) (.int .i64 d) (.bool true)).kept hv9 ((K0.out).aside3 (g := w.heap.size + 1) (by omega) (.int .i64 c) (.int .i64 d) (.bool true)).inside)
        replace K1 := Lib.hid (((K1.out).put3 (.int .i64 c) (.int .i64 d) (.bool true)).kept hv9 ((K1.out).put3 (.int .i64 c) (.int .i64 d) (.bool true)).inside)
        replace KZ := Lib.hid (((KZ.out).aside3 (g := w.heap.size + 1) (by omega) (.int .i64 c) (.int .i64 d) (.bool true)).kept hv9 ((KZ.out).aside3 (g := w.heap.size + 1) (by omega) (.int .i64 c) (.int .i64 d) (.bool true)).inside)
        replace HB := Lib.hid (bstep (bput3 HB.out le1 _ _ _) hv9)
        clear hv9
        have k0 := (KZ.out).reads (i := 0) rfl; have k1 := (KZ.out).reads (i := 1) rfl; have k2 := (KZ.out).reads (i := 2) rfl
        have f0 := (KZ.out).open_ 0; have f1 := (KZ.out).open_ 1; have f2 := (KZ.out).open_ 2
        go_wp2
        refine bodyPost_ret (v := .agg #[.int .i64 (X).lo, .int .i64 (X).hi, .bool (X).k]) (by simp [results, Try.results48, go_sem, k0, k1, k2]) rfl ⟨?_, ?_⟩
        · exact ret_sp H.out.symm
        · exact bput3 HB.out le2 _ _ _

end Go.Proofs.Ytblbjljfcoeeeaa
