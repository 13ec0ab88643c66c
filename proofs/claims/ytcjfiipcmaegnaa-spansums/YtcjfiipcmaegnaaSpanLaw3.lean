/- The walk over the law SpanSums. -/
import Derived.Test.YtcjfiipcmaegnaaSpanLawWords
namespace Go.Proofs.Ytcjfiipcmaegnaa
open Go.RowKit
set_option linter.unusedVariables false

set_option maxRecDepth 100000 in
set_option maxHeartbeats 4000000 in
theorem spansums_walk (s o : Sp) (m n : Int) (w : World) :
    Calls Try.prog 5 #[.agg #[.int .i64 (s).lo, .int .i64 (s).hi, .bool (s).k], .agg #[.int .i64 (o).lo, .int .i64 (o).hi, .bool (o).k], .agg #[.int .i64 m, .int .i64 n]] w fun e w' => e = .returned (.bool true) ∧ Below w.heap.size w w' := by
  obtain ⟨R1, HR1⟩ : ∃ R1, Hid (rgtB s = R1) := ⟨_, Lib.hid rfl⟩
  have PR1 := Lib.hid (right3_any s)
  rw [HR1.out] at PR1
  obtain ⟨R2, HR2⟩ : ∃ R2, Hid (rgtB o = R2) := ⟨_, Lib.hid rfl⟩
  have PR2 := Lib.hid (right3_any o)
  rw [HR2.out] at PR2
  obtain ⟨H1, HH1⟩ : ∃ H1, Hid (hasS s m = H1) := ⟨_, Lib.hid rfl⟩
  have PH1 := Lib.hid (has3_any s m)
  rw [HH1.out] at PH1
  obtain ⟨H2, HH2⟩ : ∃ H2, Hid (hasS o n = H2) := ⟨_, Lib.hid rfl⟩
  have PH2 := Lib.hid (has3_any o n)
  rw [HH2.out] at PH2
  obtain ⟨x, Hx⟩ : ∃ x, Hid (told (addB m n) (m + n) = x) := ⟨_, Lib.hid rfl⟩
  obtain ⟨B1, HB1⟩ : ∃ B1, Hid (addB m n = B1) := ⟨_, Lib.hid rfl⟩
  have PS := Lib.hid (add_any m n)
  rw [Hx.out, HB1.out] at PS
  obtain ⟨y, Hy⟩ : ∃ y, Hid (told (subB m n) (m - n) = y) := ⟨_, Lib.hid rfl⟩
  obtain ⟨B2, HB2⟩ : ∃ B2, Hid (subB m n = B2) := ⟨_, Lib.hid rfl⟩
  have PD := Lib.hid (sub_any m n)
  rw [Hy.out, HB2.out] at PD
  obtain ⟨X1, HX1⟩ : ∃ X1, Hid (addS s o = X1) := ⟨_, Lib.hid rfl⟩
  have PX1 := Lib.hid (add3_any s o)
  rw [HX1.out] at PX1
  obtain ⟨X2, HX2⟩ : ∃ X2, Hid (shiftS s n = X2) := ⟨_, Lib.hid rfl⟩
  have PX2 := Lib.hid (shift3_any s n)
  rw [HX2.out] at PX2
  obtain ⟨X3, HX3⟩ : ∃ X3, Hid (subS s o = X3) := ⟨_, Lib.hid rfl⟩
  have PX3 := Lib.hid (sub3_any s o)
  rw [HX3.out] at PX3
  have HA : Hid (H1 = true → H2 = true → B1 = true → hasS X1 x = true ∧ hasS X2 x = true) := by
    intro h1 h2 h3
    rw [← HX1.out, ← HX2.out, ← Hx.out, HB1.out, h3, told_true]
    exact ⟨sums_add (HH1.out.trans h1) (HH2.out.trans h2), sums_shift n (HH1.out.trans h1)⟩
  have HD : Hid (H1 = true → H2 = true → B2 = true → hasS X3 y = true) := by
    intro h1 h2 h3
    rw [← HX3.out, ← Hy.out, HB2.out, h3, told_true]
    exact sums_sub (HH1.out.trans h1) (HH2.out.trans h2)
  have PA1 := Lib.hid (has3_any X1 x)
  have PA2 := Lib.hid (has3_any X2 x)
  have PA3 := Lib.hid (has3_any X3 y)
  have OW0 := Lib.hid (own3_any s)
  have OW1 := Lib.hid (own3_any o)
  clear HR1 HR2 HH1 HH2 Hx HB1 Hy HB2 HX1 HX2 HX3
  have K0 := Lib.hid (Holds.fresh w 23 #[.int .i64 s.lo, .int .i64 s.hi, .bool s.k] (g := w.heap.size) (by simp))
  replace K0 := Lib.hid ((K0.out).laid (.cells #[.int .i64 o.lo, .int .i64 o.hi, .bool o.k] 23))
  replace K0 := Lib.hid ((K0.out).laid (.cells #[.int .i64 m, .int .i64 n] 47))
  have K1 := Lib.hid (Holds.fresh (w.alloc (.cells #[.int .i64 s.lo, .int .i64 s.hi, .bool s.k] 23)) 23 #[.int .i64 o.lo, .int .i64 o.hi, .bool o.k] (g := w.heap.size + 1) (by simp))
  replace K1 := Lib.hid ((K1.out).laid (.cells #[.int .i64 m, .int .i64 n] 47))
  have K5 := Lib.hid (Holds.fresh ((w.alloc (.cells #[.int .i64 s.lo, .int .i64 s.hi, .bool s.k] 23)).alloc (.cells #[.int .i64 o.lo, .int .i64 o.hi, .bool o.k] 23)) 47 #[.int .i64 m, .int .i64 n] (g := w.heap.size + 1 + 1) (by simp))
  have HB := Lib.hid (bstep (bstep (bnew w (.cells #[.int .i64 s.lo, .int .i64 s.hi, .bool s.k] 23)) (bnew _ (.cells #[.int .i64 o.lo, .int .i64 o.hi, .bool o.k] 23))) (bnew _ (.cells #[.int .i64 m, .int .i64 n] 47)))
  go_enter Try.func5, Try.ntmps5
  go_upto_region 1 with fail
  generalize (((w.alloc (.cells #[.int .i64 s.lo, .int .i64 s.hi, .bool s.k] 23)).alloc (.cells #[.int .i64 o.lo, .int .i64 o.hi, .bool o.k] 23)).alloc (.cells #[.int .i64 m, .int .i64 n] 47)) = W0 at *
  go_wp2_with fail
  have x1_0 := (K0.out).reads (i := 0) rfl
  have x1_1 := (K0.out).reads (i := 1) rfl
  have x1_2 := (K0.out).reads (i := 2) rfl
  have x2_0 := (K1.out).reads (i := 0) rfl
  have x2_1 := (K1.out).reads (i := 1) rfl
  have x2_2 := (K1.out).reads (i := 2) rfl
  have HS0 := Lib.hid (show W0.cell? ⟨w.heap.size, 0, none⟩ = some (.int .i64 s.lo) ∧ W0.cell? ⟨w.heap.size, 1, none⟩ = some (.int .i64 s.hi) ∧ W0.cell? ⟨w.heap.size, 2, none⟩ = some (.bool s.k) ∧ W0.cell? ⟨w.heap.size + 1, 0, none⟩ = some (.int .i64 o.lo) ∧ W0.cell? ⟨w.heap.size + 1, 1, none⟩ = some (.int .i64 o.hi) ∧ W0.cell? ⟨w.heap.size + 1, 2, none⟩ = some (.bool o.k) from ⟨x1_0, x1_1, x1_2, x2_0, x2_1, x2_2⟩)
  go_cut [7, 8] (fun p q wx => Pair s o W0 p q wx)
  case first =>
    refine wp_region_noPanic ?_
    refine wp_region_held_drew (S := fun v => v.cell? ⟨w.heap.size, 0, none⟩ = some (.int .i64 s.lo) ∧ v.cell? ⟨w.heap.size, 1, none⟩ = some (.int .i64 s.hi) ∧ v.cell? ⟨w.heap.size, 2, none⟩ = some (.bool s.k) ∧ v.cell? ⟨w.heap.size + 1, 0, none⟩ = some (.int .i64 o.lo) ∧ v.cell? ⟨w.heap.size + 1, 1, none⟩ = some (.int .i64 o.hi) ∧ v.cell? ⟨w.heap.size + 1, 2, none⟩ = some (.bool o.k)) (by kernel_rfl) ?_ (fun hHeld => ?_)
    · exact HS0.out
    refine wpAnyH_take (i := 0) (v := .agg #[.int .i64 (s).lo, .int .i64 (s).hi, .bool (s).k]) (at_list rfl) (by kernel_rfl) (by kernel_rfl) (by kernel_rfl) (fun _ _ _ h => h) (Or.inl ⟨by rfl, ?_⟩) (by assumption) ?_
    · intro v hSv
      obtain ⟨q0, q1, q2, q3, q4, q5⟩ := hSv
      go_simp
    try simp only [Act.put, List.setIfInBounds_toArray, List.set_cons_zero, List.set_cons_succ]
    refine wpAnyH_take (i := 2) (v := .agg #[.int .i64 (o).lo, .int .i64 (o).hi, .bool (o).k]) (at_list rfl) (by kernel_rfl) (by kernel_rfl) (by kernel_rfl) (fun _ _ _ h => h) (Or.inl ⟨by rfl, ?_⟩) (by assumption) ?_
    · intro v hSv
      obtain ⟨q0, q1, q2, q3, q4, q5⟩ := hSv
      go_simp
    try simp only [Act.put, List.setIfInBounds_toArray, List.set_cons_zero, List.set_cons_succ]
    refine wpAnyH_ready (rs := [1, 4, 5]) (by kernel_rfl) (by simp) ?_
    refine AllReadyH.cons (at_list rfl) (fun K hK => ?_) ?_
    · go_simp
      refine (OW0.out _).mono ?_
      rintro e w1 ⟨rfl, hb1⟩
      have Q1 := Lib.hid (bstep (bdrew (Below.refl _ _)) hb1)
      go_wp2_with fail
      refine hK.out _ _ ?_ (fun hHeld => ?_)
      · exact keep6 Q1.out HS0.out
      clear hK K
      try simp only [Act.put, List.setIfInBounds_toArray, List.set_cons_zero, List.set_cons_succ]
      refine wpAnyH_ready (rs := [3, 4, 5]) (by kernel_rfl) (by simp) ?_
      refine AllReadyH.cons (at_list rfl) (fun K hK => ?_) ?_
      · go_simp
        refine (OW1.out _).mono ?_
        rintro e w2 ⟨rfl, hb2⟩
        have Q2 := Lib.hid (bstep (Q1.out) hb2)
        go_wp2_with fail
        refine hK.out _ _ ?_ (fun hHeld => ?_)
        · exact keep6 Q2.out HS0.out
        clear hK K
        try simp only [Act.put, List.setIfInBounds_toArray, List.set_cons_zero, List.set_cons_succ]
        refine wpAnyH_ready (rs := [4, 5]) (by kernel_rfl) (by simp) ?_
        refine AllReadyH.cons (at_list rfl) (fun K hK => ?_) ?_
        · go_simp
          refine hK.out _ _ ?_ (fun hHeld => ?_)
          · exact keep6 (bstep (Q2.out) (bnew _ (.cells #[.int .i64 0, .int .i64 0, .bool false] 24))) HS0.out
          clear hK K
          try simp only [Act.put, List.setIfInBounds_toArray, List.set_cons_zero, List.set_cons_succ]
          refine wpAnyH_ready (rs := [5]) (by kernel_rfl) (by simp) ?_
          refine AllReadyH.cons (at_list rfl) (fun K hK => ?_) ?_
          · go_simp
            refine hK.out _ _ ?_ (fun hHeld => ?_)
            · exact keep6 (bstep (bstep (Q2.out) (bnew _ (.cells #[.int .i64 0, .int .i64 0, .bool false] 24))) (bnew _ (.cells #[.int .i64 0, .int .i64 0, .bool false] 24))) HS0.out
            clear hK K
            try simp only [Act.put, List.setIfInBounds_toArray, List.set_cons_zero, List.set_cons_succ]
            have LA := Lib.hid ((Holds.fresh w2 24 #[.int .i64 0, .int .i64 0, .bool false] (g := w2.heap.size) (by simp)).laid (.cells #[.int .i64 0, .int .i64 0, .bool false] 24))
            have LB := Lib.hid (Holds.fresh (w2.alloc (.cells #[.int .i64 0, .int .i64 0, .bool false] 24)) 24 #[.int .i64 0, .int .i64 0, .bool false] (g := w2.heap.size + 1) (by simp))
            have QQ := Lib.hid (bstep (bstep (Q2.out) (bnew _ (.cells #[.int .i64 0, .int .i64 0, .bool false] 24))) (bnew _ (.cells #[.int .i64 0, .int .i64 0, .bool false] 24)))
            have sz1 := (Q1.out).size
            have sz2 := (Q2.out).size
            have sz3 := hb2.size
            try simp at sz3
            have leA : W0.heap.size ≤ w2.heap.size := by omega
            have leB : W0.heap.size ≤ w2.heap.size + 1 := by omega
            have neA : ¬ (w2.heap.size = w2.heap.size + 1) := by first | omega | (have := hb1.size; simp at this; omega)
            have neB : ¬ (w2.heap.size + 1 = w2.heap.size) := fun h => neA h.symm
            clear sz1 sz2 sz3
            generalize ((w2.alloc (.cells #[.int .i64 0, .int .i64 0, .bool false] 24)).alloc (.cells #[.int .i64 0, .int .i64 0, .bool false] 24)) = V at *
            have la0 := (LA.out).reads (i := 0) rfl; have la1 := (LA.out).reads (i := 1) rfl; have la2 := (LA.out).reads (i := 2) rfl
            have lb0 := (LB.out).reads (i := 0) rfl; have lb1 := (LB.out).reads (i := 1) rfl; have lb2 := (LB.out).reads (i := 2) rfl
            have la3 := (LA.out).open_ 0; have la4 := (LA.out).open_ 1; have la5 := (LA.out).open_ 2
            have lb3 := (LB.out).open_ 0; have lb4 := (LB.out).open_ 1; have lb5 := (LB.out).open_ 2
            refine wpAnyH_ready (rs := [6]) (by kernel_rfl) (by simp) ?_
            refine AllReadyH.cons (at_list rfl) (fun K hK => ?_) AllReadyH.nil
            go_simp
            refine hK.out _ _ ?_ (fun hHeld => ?_)
            · exact keep6 (bput3 QQ.out leA _ _ _) HS0.out
            clear hK K
            try simp only [Act.put, List.setIfInBounds_toArray, List.set_cons_zero, List.set_cons_succ]
            refine wpAnyH_ready (rs := [7]) (by kernel_rfl) (by simp) ?_
            refine AllReadyH.cons (at_list rfl) (fun K hK => ?_) AllReadyH.nil
            go_simp
            refine hK.out _ _ ?_ (fun hHeld => ?_)
            · exact keep6 (bput3 (bput3 QQ.out leA _ _ _) leB _ _ _) HS0.out
            clear hK K
            try simp only [Act.put, List.setIfInBounds_toArray, List.set_cons_zero, List.set_cons_succ]
            refine wpAnyH_done (by kernel_rfl) ?_ _
            refine NoPanic.normal ?_
            go_wp2_with fail
            go_meet
            exact ⟨_, _, rfl, rfl, ((LA.out).put3 _ _ _).aside3 neB _ _ _, ((LB.out).aside3 neA _ _ _).put3 _ _ _, bput3 (bput3 QQ.out leA _ _ _) leB _ _ _⟩
          exact AllReadyH.nil
        refine AllReadyH.cons (at_list rfl) (fun K hK => ?_) ?_
        · go_simp
          refine hK.out _ _ ?_ (fun hHeld => ?_)
          · exact keep6 (bstep (Q2.out) (bnew _ (.cells #[.int .i64 0, .int .i64 0, .bool false] 24))) HS0.out
          clear hK K
          try simp only [Act.put, List.setIfInBounds_toArray, List.set_cons_zero, List.set_cons_succ]
          refine wpAnyH_ready (rs := [4]) (by kernel_rfl) (by simp) ?_
          refine AllReadyH.cons (at_list rfl) (fun K hK => ?_) ?_
          · go_simp
            refine hK.out _ _ ?_ (fun hHeld => ?_)
            · exact keep6 (bstep (bstep (Q2.out) (bnew _ (.cells #[.int .i64 0, .int .i64 0, .bool false] 24))) (bnew _ (.cells #[.int .i64 0, .int .i64 0, .bool false] 24))) HS0.out
            clear hK K
            try simp only [Act.put, List.setIfInBounds_toArray, List.set_cons_zero, List.set_cons_succ]
            have LA := Lib.hid (Holds.fresh (w2.alloc (.cells #[.int .i64 0, .int .i64 0, .bool false] 24)) 24 #[.int .i64 0, .int .i64 0, .bool false] (g := w2.heap.size + 1) (by simp))
            have LB := Lib.hid ((Holds.fresh w2 24 #[.int .i64 0, .int .i64 0, .bool false] (g := w2.heap.size) (by simp)).laid (.cells #[.int .i64 0, .int .i64 0, .bool false] 24))
            have QQ := Lib.hid (bstep (bstep (Q2.out) (bnew _ (.cells #[.int .i64 0, .int .i64 0, .bool false] 24))) (bnew _ (.cells #[.int .i64 0, .int .i64 0, .bool false] 24)))
            have sz1 := (Q1.out).size
            have sz2 := (Q2.out).size
            have sz3 := hb2.size
            try simp at sz3
            have leA : W0.heap.size ≤ w2.heap.size + 1 := by omega
            have leB : W0.heap.size ≤ w2.heap.size := by omega
            have neA : ¬ (w2.heap.size + 1 = w2.heap.size) := by first | omega | (have := hb1.size; simp at this; omega)
            have neB : ¬ (w2.heap.size = w2.heap.size + 1) := fun h => neA h.symm
            clear sz1 sz2 sz3
            generalize ((w2.alloc (.cells #[.int .i64 0, .int .i64 0, .bool false] 24)).alloc (.cells #[.int .i64 0, .int .i64 0, .bool false] 24)) = V at *
            have la0 := (LA.out).reads (i := 0) rfl; have la1 := (LA.out).reads (i := 1) rfl; have la2 := (LA.out).reads (i := 2) rfl
            have lb0 := (LB.out).reads (i := 0) rfl; have lb1 := (LB.out).reads (i := 1) rfl; have lb2 := (LB.out).reads (i := 2) rfl
            have la3 := (LA.out).open_ 0; have la4 := (LA.out).open_ 1; have la5 := (LA.out).open_ 2
            have lb3 := (LB.out).open_ 0; have lb4 := (LB.out).open_ 1; have lb5 := (LB.out).open_ 2
            refine wpAnyH_ready (rs := [6]) (by kernel_rfl) (by simp) ?_
            refine AllReadyH.cons (at_list rfl) (fun K hK => ?_) AllReadyH.nil
            go_simp
            refine hK.out _ _ ?_ (fun hHeld => ?_)
            · exact keep6 (bput3 QQ.out leA _ _ _) HS0.out
            clear hK K
            try simp only [Act.put, List.setIfInBounds_toArray, List.set_cons_zero, List.set_cons_succ]
            refine wpAnyH_ready (rs := [7]) (by kernel_rfl) (by simp) ?_
            refine AllReadyH.cons (at_list rfl) (fun K hK => ?_) AllReadyH.nil
            go_simp
            refine hK.out _ _ ?_ (fun hHeld => ?_)
            · exact keep6 (bput3 (bput3 QQ.out leA _ _ _) leB _ _ _) HS0.out
            clear hK K
            try simp only [Act.put, List.setIfInBounds_toArray, List.set_cons_zero, List.set_cons_succ]
            refine wpAnyH_done (by kernel_rfl) ?_ _
            refine NoPanic.normal ?_
            go_wp2_with fail
            go_meet
            exact ⟨_, _, rfl, rfl, ((LA.out).put3 _ _ _).aside3 neB _ _ _, ((LB.out).aside3 neA _ _ _).put3 _ _ _, bput3 (bput3 QQ.out leA _ _ _) leB _ _ _⟩
          exact AllReadyH.nil
        exact AllReadyH.nil
      refine AllReadyH.cons (at_list rfl) (fun K hK => ?_) ?_
      · go_simp
        refine hK.out _ _ ?_ (fun hHeld => ?_)
        · exact keep6 (bstep (Q1.out) (bnew _ (.cells #[.int .i64 0, .int .i64 0, .bool false] 24))) HS0.out
        clear hK K
        try simp only [Act.put, List.setIfInBounds_toArray, List.set_cons_zero, List.set_cons_succ]
        refine wpAnyH_ready (rs := [3, 5]) (by kernel_rfl) (by simp) ?_
        refine AllReadyH.cons (at_list rfl) (fun K hK => ?_) ?_
        · go_simp
          refine (OW1.out _).mono ?_
          rintro e w2 ⟨rfl, hb2⟩
          have Q2 := Lib.hid (bstep (bstep (Q1.out) (bnew _ (.cells #[.int .i64 0, .int .i64 0, .bool false] 24))) hb2)
          have KA2 := Lib.hid ((Holds.fresh w1 24 #[.int .i64 0, .int .i64 0, .bool false] (g := w1.heap.size) (by simp)).keptB hb2)
          go_wp2_with fail
          refine hK.out _ _ ?_ (fun hHeld => ?_)
          · exact keep6 Q2.out HS0.out
          clear hK K
          try simp only [Act.put, List.setIfInBounds_toArray, List.set_cons_zero, List.set_cons_succ]
          refine wpAnyH_ready (rs := [5]) (by kernel_rfl) (by simp) ?_
          refine AllReadyH.cons (at_list rfl) (fun K hK => ?_) ?_
          · go_simp
            refine hK.out _ _ ?_ (fun hHeld => ?_)
            · exact keep6 (bstep (Q2.out) (bnew _ (.cells #[.int .i64 0, .int .i64 0, .bool false] 24))) HS0.out
            clear hK K
            try simp only [Act.put, List.setIfInBounds_toArray, List.set_cons_zero, List.set_cons_succ]
            have LA := Lib.hid ((KA2.out).laid (.cells #[.int .i64 0, .int .i64 0, .bool false] 24))
            have LB := Lib.hid (Holds.fresh w2 24 #[.int .i64 0, .int .i64 0, .bool false] (g := w2.heap.size) (by simp))
            have QQ := Lib.hid (bstep (Q2.out) (bnew _ (.cells #[.int .i64 0, .int .i64 0, .bool false] 24)))
            have sz1 := (Q1.out).size
            have sz2 := (Q2.out).size
            have sz3 := hb2.size
            try simp at sz3
            have leA : W0.heap.size ≤ w1.heap.size := by omega
            have leB : W0.heap.size ≤ w2.heap.size := by omega
            have neA : ¬ (w1.heap.size = w2.heap.size) := by first | omega | (have := hb1.size; simp at this; omega)
            have neB : ¬ (w2.heap.size = w1.heap.size) := fun h => neA h.symm
            clear sz1 sz2 sz3
            generalize (w2.alloc (.cells #[.int .i64 0, .int .i64 0, .bool false] 24)) = V at *
            have la0 := (LA.out).reads (i := 0) rfl; have la1 := (LA.out).reads (i := 1) rfl; have la2 := (LA.out).reads (i := 2) rfl
            have lb0 := (LB.out).reads (i := 0) rfl; have lb1 := (LB.out).reads (i := 1) rfl; have lb2 := (LB.out).reads (i := 2) rfl
            have la3 := (LA.out).open_ 0; have la4 := (LA.out).open_ 1; have la5 := (LA.out).open_ 2
            have lb3 := (LB.out).open_ 0; have lb4 := (LB.out).open_ 1; have lb5 := (LB.out).open_ 2
            refine wpAnyH_ready (rs := [6]) (by kernel_rfl) (by simp) ?_
            refine AllReadyH.cons (at_list rfl) (fun K hK => ?_) AllReadyH.nil
            go_simp
            refine hK.out _ _ ?_ (fun hHeld => ?_)
            · exact keep6 (bput3 QQ.out leA _ _ _) HS0.out
            clear hK K
            try simp only [Act.put, List.setIfInBounds_toArray, List.set_cons_zero, List.set_cons_succ]
            refine wpAnyH_ready (rs := [7]) (by kernel_rfl) (by simp) ?_
            refine AllReadyH.cons (at_list rfl) (fun K hK => ?_) AllReadyH.nil
            go_simp
            refine hK.out _ _ ?_ (fun hHeld => ?_)
            · exact keep6 (bput3 (bput3 QQ.out leA _ _ _) leB _ _ _) HS0.out
            clear hK K
            try simp only [Act.put, List.setIfInBounds_toArray, List.set_cons_zero, List.set_cons_succ]
            refine wpAnyH_done (by kernel_rfl) ?_ _
            refine NoPanic.normal ?_
            go_wp2_with fail
            go_meet
            exact ⟨_, _, rfl, rfl, ((LA.out).put3 _ _ _).aside3 neB _ _ _, ((LB.out).aside3 neA _ _ _).put3 _ _ _, bput3 (bput3 QQ.out leA _ _ _) leB _ _ _⟩
          exact AllReadyH.nil
        refine AllReadyH.cons (at_list rfl) (fun K hK => ?_) ?_
        · go_simp
          refine hK.out _ _ ?_ (fun hHeld => ?_)
          · exact keep6 (bstep (bstep (Q1.out) (bnew _ (.cells #[.int .i64 0, .int .i64 0, .bool false] 24))) (bnew _ (.cells #[.int .i64 0, .int .i64 0, .bool false] 24))) HS0.out
          clear hK K
          try simp only [Act.put, List.setIfInBounds_toArray, List.set_cons_zero, List.set_cons_succ]
          refine wpAnyH_ready (rs := [3]) (by kernel_rfl) (by simp) ?_
          refine AllReadyH.cons (at_list rfl) (fun K hK => ?_) ?_
          · go_simp
            refine (OW1.out _).mono ?_
            rintro e w2 ⟨rfl, hb2⟩
            have Q2 := Lib.hid (bstep (bstep (bstep (Q1.out) (bnew _ (.cells #[.int .i64 0, .int .i64 0, .bool false] 24))) (bnew _ (.cells #[.int .i64 0, .int .i64 0, .bool false] 24))) hb2)
            have KA2 := Lib.hid (((Holds.fresh w1 24 #[.int .i64 0, .int .i64 0, .bool false] (g := w1.heap.size) (by simp)).laid (.cells #[.int .i64 0, .int .i64 0, .bool false] 24)).keptB hb2)
            have KB2 := Lib.hid ((Holds.fresh (w1.alloc (.cells #[.int .i64 0, .int .i64 0, .bool false] 24)) 24 #[.int .i64 0, .int .i64 0, .bool false] (g := w1.heap.size + 1) (by simp)).keptB hb2)
            go_wp2_with fail
            refine hK.out _ _ ?_ (fun hHeld => ?_)
            · exact keep6 Q2.out HS0.out
            clear hK K
            try simp only [Act.put, List.setIfInBounds_toArray, List.set_cons_zero, List.set_cons_succ]
            have LA := Lib.hid (KA2.out)
            have LB := Lib.hid (KB2.out)
            have QQ := Lib.hid (Q2.out)
            have sz1 := (Q1.out).size
            have sz2 := (Q2.out).size
            have sz3 := hb2.size
            try simp at sz3
            have leA : W0.heap.size ≤ w1.heap.size := by omega
            have leB : W0.heap.size ≤ w1.heap.size + 1 := by omega
            have neA : ¬ (w1.heap.size = w1.heap.size + 1) := by first | omega | (have := hb1.size; simp at this; omega)
            have neB : ¬ (w1.heap.size + 1 = w1.heap.size) := fun h => neA h.symm
            clear sz1 sz2 sz3
            have la0 := (LA.out).reads (i := 0) rfl; have la1 := (LA.out).reads (i := 1) rfl; have la2 := (LA.out).reads (i := 2) rfl
            have lb0 := (LB.out).reads (i := 0) rfl; have lb1 := (LB.out).reads (i := 1) rfl; have lb2 := (LB.out).reads (i := 2) rfl
            have la3 := (LA.out).open_ 0; have la4 := (LA.out).open_ 1; have la5 := (LA.out).open_ 2
            have lb3 := (LB.out).open_ 0; have lb4 := (LB.out).open_ 1; have lb5 := (LB.out).open_ 2
            refine wpAnyH_ready (rs := [6]) (by kernel_rfl) (by simp) ?_
            refine AllReadyH.cons (at_list rfl) (fun K hK => ?_) AllReadyH.nil
            go_simp
            refine hK.out _ _ ?_ (fun hHeld => ?_)
            · exact keep6 (bput3 QQ.out leA _ _ _) HS0.out
            clear hK K
            try simp only [Act.put, List.setIfInBounds_toArray, List.set_cons_zero, List.set_cons_succ]
            refine wpAnyH_ready (rs := [7]) (by kernel_rfl) (by simp) ?_
            refine AllReadyH.cons (at_list rfl) (fun K hK => ?_) AllReadyH.nil
            go_simp
            refine hK.out _ _ ?_ (fun hHeld => ?_)
            · exact keep6 (bput3 (bput3 QQ.out leA _ _ _) leB _ _ _) HS0.out
            clear hK K
            try simp only [Act.put, List.setIfInBounds_toArray, List.set_cons_zero, List.set_cons_succ]
            refine wpAnyH_done (by kernel_rfl) ?_ _
            refine NoPanic.normal ?_
            go_wp2_with fail
            go_meet
            exact ⟨_, _, rfl, rfl, ((LA.out).put3 _ _ _).aside3 neB _ _ _, ((LB.out).aside3 neA _ _ _).put3 _ _ _, bput3 (bput3 QQ.out leA _ _ _) leB _ _ _⟩
          exact AllReadyH.nil
        exact AllReadyH.nil
      refine AllReadyH.cons (at_list rfl) (fun K hK => ?_) ?_
      · go_simp
        refine hK.out _ _ ?_ (fun hHeld => ?_)
        · exact keep6 (bstep (Q1.out) (bnew _ (.cells #[.int .i64 0, .int .i64 0, .bool false] 24))) HS0.out
        clear hK K
        try simp only [Act.put, List.setIfInBounds_toArray, List.set_cons_zero, List.set_cons_succ]
        refine wpAnyH_ready (rs := [3, 4]) (by kernel_rfl) (by simp) ?_
        refine AllReadyH.cons (at_list rfl) (fun K hK => ?_) ?_
        · go_simp
          refine (OW1.out _).mono ?_
          rintro e w2 ⟨rfl, hb2⟩
          have Q2 := Lib.hid (bstep (bstep (Q1.out) (bnew _ (.cells #[.int .i64 0, .int .i64 0, .bool false] 24))) hb2)
          have KB2 := Lib.hid ((Holds.fresh w1 24 #[.int .i64 0, .int .i64 0, .bool false] (g := w1.heap.size) (by simp)).keptB hb2)
          go_wp2_with fail
          refine hK.out _ _ ?_ (fun hHeld => ?_)
          · exact keep6 Q2.out HS0.out
          clear hK K
          try simp only [Act.put, List.setIfInBounds_toArray, List.set_cons_zero, List.set_cons_succ]
          refine wpAnyH_ready (rs := [4]) (by kernel_rfl) (by simp) ?_
          refine AllReadyH.cons (at_list rfl) (fun K hK => ?_) ?_
          · go_simp
            refine hK.out _ _ ?_ (fun hHeld => ?_)
            · exact keep6 (bstep (Q2.out) (bnew _ (.cells #[.int .i64 0, .int .i64 0, .bool false] 24))) HS0.out
            clear hK K
            try simp only [Act.put, List.setIfInBounds_toArray, List.set_cons_zero, List.set_cons_succ]
            have LA := Lib.hid (Holds.fresh w2 24 #[.int .i64 0, .int .i64 0, .bool false] (g := w2.heap.size) (by simp))
            have LB := Lib.hid ((KB2.out).laid (.cells #[.int .i64 0, .int .i64 0, .bool false] 24))
            have QQ := Lib.hid (bstep (Q2.out) (bnew _ (.cells #[.int .i64 0, .int .i64 0, .bool false] 24)))
            have sz1 := (Q1.out).size
            have sz2 := (Q2.out).size
            have sz3 := hb2.size
            try simp at sz3
            have leA : W0.heap.size ≤ w2.heap.size := by omega
            have leB : W0.heap.size ≤ w1.heap.size := by omega
            have neA : ¬ (w2.heap.size = w1.heap.size) := by first | omega | (have := hb1.size; simp at this; omega)
            have neB : ¬ (w1.heap.size = w2.heap.size) := fun h => neA h.symm
            clear sz1 sz2 sz3
            generalize (w2.alloc (.cells #[.int .i64 0, .int .i64 0, .bool false] 24)) = V at *
            have la0 := (LA.out).reads (i := 0) rfl; have la1 := (LA.out).reads (i := 1) rfl; have la2 := (LA.out).reads (i := 2) rfl
            have lb0 := (LB.out).reads (i := 0) rfl; have lb1 := (LB.out).reads (i := 1) rfl; have lb2 := (LB.out).reads (i := 2) rfl
            have la3 := (LA.out).open_ 0; have la4 := (LA.out).open_ 1; have la5 := (LA.out).open_ 2
            have lb3 := (LB.out).open_ 0; have lb4 := (LB.out).open_ 1; have lb5 := (LB.out).open_ 2
            refine wpAnyH_ready (rs := [6]) (by kernel_rfl) (by simp) ?_
            refine AllReadyH.cons (at_list rfl) (fun K hK => ?_) AllReadyH.nil
            go_simp
            refine hK.out _ _ ?_ (fun hHeld => ?_)
            · exact keep6 (bput3 QQ.out leA _ _ _) HS0.out
            clear hK K
            try simp only [Act.put, List.setIfInBounds_toArray, List.set_cons_zero, List.set_cons_succ]
            refine wpAnyH_ready (rs := [7]) (by kernel_rfl) (by simp) ?_
            refine AllReadyH.cons (at_list rfl) (fun K hK => ?_) AllReadyH.nil
            go_simp
            refine hK.out _ _ ?_ (fun hHeld => ?_)
            · exact keep6 (bput3 (bput3 QQ.out leA _ _ _) leB _ _ _) HS0.out
            clear hK K
            try simp only [Act.put, List.setIfInBounds_toArray, List.set_cons_zero, List.set_cons_succ]
            refine wpAnyH_done (by kernel_rfl) ?_ _
            refine NoPanic.normal ?_
            go_wp2_with fail
            go_meet
            exact ⟨_, _, rfl, rfl, ((LA.out).put3 _ _ _).aside3 neB _ _ _, ((LB.out).aside3 neA _ _ _).put3 _ _ _, bput3 (bput3 QQ.out leA _ _ _) leB _ _ _⟩
          exact AllReadyH.nil
        refine AllReadyH.cons (at_list rfl) (fun K hK => ?_) ?_
        · go_simp
          refine hK.out _ _ ?_ (fun hHeld => ?_)
          · exact keep6 (bstep (bstep (Q1.out) (bnew _ (.cells #[.int .i64 0, .int .i64 0, .bool false] 24))) (bnew _ (.cells #[.int .i64 0, .int .i64 0, .bool false] 24))) HS0.out
          clear hK K
          try simp only [Act.put, List.setIfInBounds_toArray, List.set_cons_zero, List.set_cons_succ]
          refine wpAnyH_ready (rs := [3]) (by kernel_rfl) (by simp) ?_
          refine AllReadyH.cons (at_list rfl) (fun K hK => ?_) ?_
          · go_simp
            refine (OW1.out _).mono ?_
            rintro e w2 ⟨rfl, hb2⟩
            have Q2 := Lib.hid (bstep (bstep (bstep (Q1.out) (bnew _ (.cells #[.int .i64 0, .int .i64 0, .bool false] 24))) (bnew _ (.cells #[.int .i64 0, .int .i64 0, .bool false] 24))) hb2)
            have KB2 := Lib.hid (((Holds.fresh w1 24 #[.int .i64 0, .int .i64 0, .bool false] (g := w1.heap.size) (by simp)).laid (.cells #[.int .i64 0, .int .i64 0, .bool false] 24)).keptB hb2)
            have KA2 := Lib.hid ((Holds.fresh (w1.alloc (.cells #[.int .i64 0, .int .i64 0, .bool false] 24)) 24 #[.int .i64 0, .int .i64 0, .bool false] (g := w1.heap.size + 1) (by simp)).keptB hb2)
            go_wp2_with fail
            refine hK.out _ _ ?_ (fun hHeld => ?_)
            · exact keep6 Q2.out HS0.out
            clear hK K
            try simp only [Act.put, List.setIfInBounds_toArray, List.set_cons_zero, List.set_cons_succ]
            have LA := Lib.hid (KA2.out)
            have LB := Lib.hid (KB2.out)
            have QQ := Lib.hid (Q2.out)
            have sz1 := (Q1.out).size
            have sz2 := (Q2.out).size
            have sz3 := hb2.size
            try simp at sz3
            have leA : W0.heap.size ≤ w1.heap.size + 1 := by omega
            have leB : W0.heap.size ≤ w1.heap.size := by omega
            have neA : ¬ (w1.heap.size + 1 = w1.heap.size) := by first | omega | (have := hb1.size; simp at this; omega)
            have neB : ¬ (w1.heap.size = w1.heap.size + 1) := fun h => neA h.symm
            clear sz1 sz2 sz3
            have la0 := (LA.out).reads (i := 0) rfl; have la1 := (LA.out).reads (i := 1) rfl; have la2 := (LA.out).reads (i := 2) rfl
            have lb0 := (LB.out).reads (i := 0) rfl; have lb1 := (LB.out).reads (i := 1) rfl; have lb2 := (LB.out).reads (i := 2) rfl
            have la3 := (LA.out).open_ 0; have la4 := (LA.out).open_ 1; have la5 := (LA.out).open_ 2
            have lb3 := (LB.out).open_ 0; have lb4 := (LB.out).open_ 1; have lb5 := (LB.out).open_ 2
            refine wpAnyH_ready (rs := [6]) (by kernel_rfl) (by simp) ?_
            refine AllReadyH.cons (at_list rfl) (fun K hK => ?_) AllReadyH.nil
            go_simp
            refine hK.out _ _ ?_ (fun hHeld => ?_)
            · exact keep6 (bput3 QQ.out leA _ _ _) HS0.out
            clear hK K
            try simp only [Act.put, List.setIfInBounds_toArray, List.set_cons_zero, List.set_cons_succ]
            refine wpAnyH_ready (rs := [7]) (by kernel_rfl) (by simp) ?_
            refine AllReadyH.cons (at_list rfl) (fun K hK => ?_) AllReadyH.nil
            go_simp
            refine hK.out _ _ ?_ (fun hHeld => ?_)
            · exact keep6 (bput3 (bput3 QQ.out leA _ _ _) leB _ _ _) HS0.out
            clear hK K
            try simp only [Act.put, List.setIfInBounds_toArray, List.set_cons_zero, List.set_cons_succ]
            refine wpAnyH_done (by kernel_rfl) ?_ _
            refine NoPanic.normal ?_
            go_wp2_with fail
            go_meet
            exact ⟨_, _, rfl, rfl, ((LA.out).put3 _ _ _).aside3 neB _ _ _, ((LB.out).aside3 neA _ _ _).put3 _ _ _, bput3 (bput3 QQ.out leA _ _ _) leB _ _ _⟩
          exact AllReadyH.nil
        exact AllReadyH.nil
      exact AllReadyH.nil
    refine AllReadyH.cons (at_list rfl) (fun K hK => ?_) ?_
    · go_simp
      refine hK.out _ _ ?_ (fun hHeld => ?_)
      · exact keep6 (bdrew (bnew W0 (.cells #[.int .i64 0, .int .i64 0, .bool false] 24))) HS0.out
      clear hK K
      try simp only [Act.put, List.setIfInBounds_toArray, List.set_cons_zero, List.set_cons_succ]
      refine wpAnyH_ready (rs := [1, 5]) (by kernel_rfl) (by simp) ?_
      refine AllReadyH.cons (at_list rfl) (fun K hK => ?_) ?_
      · go_simp
        refine (OW0.out _).mono ?_
        rintro e w1 ⟨rfl, hb1⟩
        have Q1 := Lib.hid (bstep (bdrew (bnew W0 (.cells #[.int .i64 0, .int .i64 0, .bool false] 24))) hb1)
        have KA1 := Lib.hid (((Holds.fresh W0 24 #[.int .i64 0, .int .i64 0, .bool false] (g := W0.heap.size) (by simp)).drew).keptB hb1)
        go_wp2_with fail
        refine hK.out _ _ ?_ (fun hHeld => ?_)
        · exact keep6 Q1.out HS0.out
        clear hK K
        try simp only [Act.put, List.setIfInBounds_toArray, List.set_cons_zero, List.set_cons_succ]
        refine wpAnyH_ready (rs := [3, 5]) (by kernel_rfl) (by simp) ?_
        refine AllReadyH.cons (at_list rfl) (fun K hK => ?_) ?_
        · go_simp
          refine (OW1.out _).mono ?_
          rintro e w2 ⟨rfl, hb2⟩
          have Q2 := Lib.hid (bstep (Q1.out) hb2)
          have KA2 := Lib.hid ((KA1.out).keptB hb2)
          go_wp2_with fail
          refine hK.out _ _ ?_ (fun hHeld => ?_)
          · exact keep6 Q2.out HS0.out
          clear hK K
          try simp only [Act.put, List.setIfInBounds_toArray, List.set_cons_zero, List.set_cons_succ]
          refine wpAnyH_ready (rs := [5]) (by kernel_rfl) (by simp) ?_
          refine AllReadyH.cons (at_list rfl) (fun K hK => ?_) ?_
          · go_simp
            refine hK.out _ _ ?_ (fun hHeld => ?_)
            · exact keep6 (bstep (Q2.out) (bnew _ (.cells #[.int .i64 0, .int .i64 0, .bool false] 24))) HS0.out
            clear hK K
            try simp only [Act.put, List.setIfInBounds_toArray, List.set_cons_zero, List.set_cons_succ]
            have LA := Lib.hid ((KA2.out).laid (.cells #[.int .i64 0, .int .i64 0, .bool false] 24))
            have LB := Lib.hid (Holds.fresh w2 24 #[.int .i64 0, .int .i64 0, .bool false] (g := w2.heap.size) (by simp))
            have QQ := Lib.hid (bstep (Q2.out) (bnew _ (.cells #[.int .i64 0, .int .i64 0, .bool false] 24)))
            have sz1 := (Q1.out).size
            have sz2 := (Q2.out).size
            have sz3 := hb2.size
            try simp at sz3
            have leA : W0.heap.size ≤ W0.heap.size := by omega
            have leB : W0.heap.size ≤ w2.heap.size := by omega
            have neA : ¬ (W0.heap.size = w2.heap.size) := by first | omega | (have := hb1.size; simp at this; omega)
            have neB : ¬ (w2.heap.size = W0.heap.size) := fun h => neA h.symm
            clear sz1 sz2 sz3
            generalize (w2.alloc (.cells #[.int .i64 0, .int .i64 0, .bool false] 24)) = V at *
            have la0 := (LA.out).reads (i := 0) rfl; have la1 := (LA.out).reads (i := 1) rfl; have la2 := (LA.out).reads (i := 2) rfl
            have lb0 := (LB.out).reads (i := 0) rfl; have lb1 := (LB.out).reads (i := 1) rfl; have lb2 := (LB.out).reads (i := 2) rfl
            have la3 := (LA.out).open_ 0; have la4 := (LA.out).open_ 1; have la5 := (LA.out).open_ 2
            have lb3 := (LB.out).open_ 0; have lb4 := (LB.out).open_ 1; have lb5 := (LB.out).open_ 2
            refine wpAnyH_ready (rs := [6]) (by kernel_rfl) (by simp) ?_
            refine AllReadyH.cons (at_list rfl) (fun K hK => ?_) AllReadyH.nil
            go_simp
            refine hK.out _ _ ?_ (fun hHeld => ?_)
            · exact keep6 (bput3 QQ.out leA _ _ _) HS0.out
            clear hK K
            try simp only [Act.put, List.setIfInBounds_toArray, List.set_cons_zero, List.set_cons_succ]
            refine wpAnyH_ready (rs := [7]) (by kernel_rfl) (by simp) ?_
            refine AllReadyH.cons (at_list rfl) (fun K hK => ?_) AllReadyH.nil
            go_simp
            refine hK.out _ _ ?_ (fun hHeld => ?_)
            · exact keep6 (bput3 (bput3 QQ.out leA _ _ _) leB _ _ _) HS0.out
            clear hK K
            try simp only [Act.put, List.setIfInBounds_toArray, List.set_cons_zero, List.set_cons_succ]
            refine wpAnyH_done (by kernel_rfl) ?_ _
            refine NoPanic.normal ?_
            go_wp2_with fail
            go_meet
            exact ⟨_, _, rfl, rfl, ((LA.out).put3 _ _ _).aside3 neB _ _ _, ((LB.out).aside3 neA _ _ _).put3 _ _ _, bput3 (bput3 QQ.out leA _ _ _) leB _ _ _⟩
          exact AllReadyH.nil
        refine AllReadyH.cons (at_list rfl) (fun K hK => ?_) ?_
        · go_simp
          refine hK.out _ _ ?_ (fun hHeld => ?_)
          · exact keep6 (bstep (Q1.out) (bnew _ (.cells #[.int .i64 0, .int .i64 0, .bool false] 24))) HS0.out
          clear hK K
          try simp only [Act.put, List.setIfInBounds_toArray, List.set_cons_zero, List.set_cons_succ]
          refine wpAnyH_ready (rs := [3]) (by kernel_rfl) (by simp) ?_
          refine AllReadyH.cons (at_list rfl) (fun K hK => ?_) ?_
          · go_simp
            refine (OW1.out _).mono ?_
            rintro e w2 ⟨rfl, hb2⟩
            have Q2 := Lib.hid (bstep (bstep (Q1.out) (bnew _ (.cells #[.int .i64 0, .int .i64 0, .bool false] 24))) hb2)
            have KA2 := Lib.hid (((KA1.out).laid (.cells #[.int .i64 0, .int .i64 0, .bool false] 24)).keptB hb2)
            have KB2 := Lib.hid ((Holds.fresh w1 24 #[.int .i64 0, .int .i64 0, .bool false] (g := w1.heap.size) (by simp)).keptB hb2)
            go_wp2_with fail
            refine hK.out _ _ ?_ (fun hHeld => ?_)
            · exact keep6 Q2.out HS0.out
            clear hK K
            try simp only [Act.put, List.setIfInBounds_toArray, List.set_cons_zero, List.set_cons_succ]
            have LA := Lib.hid (KA2.out)
            have LB := Lib.hid (KB2.out)
            have QQ := Lib.hid (Q2.out)
            have sz1 := (Q1.out).size
            have sz2 := (Q2.out).size
            have sz3 := hb2.size
            try simp at sz3
            have leA : W0.heap.size ≤ W0.heap.size := by omega
            have leB : W0.heap.size ≤ w1.heap.size := by omega
            have neA : ¬ (W0.heap.size = w1.heap.size) := by first | omega | (have := hb1.size; simp at this; omega)
            have neB : ¬ (w1.heap.size = W0.heap.size) := fun h => neA h.symm
            clear sz1 sz2 sz3
            have la0 := (LA.out).reads (i := 0) rfl; have la1 := (LA.out).reads (i := 1) rfl; have la2 := (LA.out).reads (i := 2) rfl
            have lb0 := (LB.out).reads (i := 0) rfl; have lb1 := (LB.out).reads (i := 1) rfl; have lb2 := (LB.out).reads (i := 2) rfl
            have la3 := (LA.out).open_ 0; have la4 := (LA.out).open_ 1; have la5 := (LA.out).open_ 2
            have lb3 := (LB.out).open_ 0; have lb4 := (LB.out).open_ 1; have lb5 := (LB.out).open_ 2
            refine wpAnyH_ready (rs := [6]) (by kernel_rfl) (by simp) ?_
            refine AllReadyH.cons (at_list rfl) (fun K hK => ?_) AllReadyH.nil
            go_simp
            refine hK.out _ _ ?_ (fun hHeld => ?_)
            · exact keep6 (bput3 QQ.out leA _ _ _) HS0.out
            clear hK K
            try simp only [Act.put, List.setIfInBounds_toArray, List.set_cons_zero, List.set_cons_succ]
            refine wpAnyH_ready (rs := [7]) (by kernel_rfl) (by simp) ?_
            refine AllReadyH.cons (at_list rfl) (fun K hK => ?_) AllReadyH.nil
            go_simp
            refine hK.out _ _ ?_ (fun hHeld => ?_)
            · exact keep6 (bput3 (bput3 QQ.out leA _ _ _) leB _ _ _) HS0.out
            clear hK K
            try simp only [Act.put, List.setIfInBounds_toArray, List.set_cons_zero, List.set_cons_succ]
            refine wpAnyH_done (by kernel_rfl) ?_ _
            refine NoPanic.normal ?_
            go_wp2_with fail
            go_meet
            exact ⟨_, _, rfl, rfl, ((LA.out).put3 _ _ _).aside3 neB _ _ _, ((LB.out).aside3 neA _ _ _).put3 _ _ _, bput3 (bput3 QQ.out leA _ _ _) leB _ _ _⟩
          exact AllReadyH.nil
        exact AllReadyH.nil
      refine AllReadyH.cons (at_list rfl) (fun K hK => ?_) ?_
      · go_simp
        refine hK.out _ _ ?_ (fun hHeld => ?_)
        · exact keep6 (bdrew (bstep (bnew W0 (.cells #[.int .i64 0, .int .i64 0, .bool false] 24)) (bnew _ (.cells #[.int .i64 0, .int .i64 0, .bool false] 24)))) HS0.out
        clear hK K
        try simp only [Act.put, List.setIfInBounds_toArray, List.set_cons_zero, List.set_cons_succ]
        refine wpAnyH_ready (rs := [1]) (by kernel_rfl) (by simp) ?_
        refine AllReadyH.cons (at_list rfl) (fun K hK => ?_) ?_
        · go_simp
          refine (OW0.out _).mono ?_
          rintro e w1 ⟨rfl, hb1⟩
          have Q1 := Lib.hid (bstep (bdrew (bstep (bnew W0 (.cells #[.int .i64 0, .int .i64 0, .bool false] 24)) (bnew _ (.cells #[.int .i64 0, .int .i64 0, .bool false] 24)))) hb1)
          have KA1 := Lib.hid (((((Holds.fresh W0 24 #[.int .i64 0, .int .i64 0, .bool false] (g := W0.heap.size) (by simp))).laid (.cells #[.int .i64 0, .int .i64 0, .bool false] 24)).drew).keptB hb1)
          have KB1 := Lib.hid (((Holds.fresh (W0.alloc (.cells #[.int .i64 0, .int .i64 0, .bool false] 24)) 24 #[.int .i64 0, .int .i64 0, .bool false] (g := W0.heap.size + 1) (by simp)).drew).keptB hb1)
          go_wp2_with fail
          refine hK.out _ _ ?_ (fun hHeld => ?_)
          · exact keep6 Q1.out HS0.out
          clear hK K
          try simp only [Act.put, List.setIfInBounds_toArray, List.set_cons_zero, List.set_cons_succ]
          refine wpAnyH_ready (rs := [3]) (by kernel_rfl) (by simp) ?_
          refine AllReadyH.cons (at_list rfl) (fun K hK => ?_) ?_
          · go_simp
            refine (OW1.out _).mono ?_
            rintro e w2 ⟨rfl, hb2⟩
            have Q2 := Lib.hid (bstep (Q1.out) hb2)
            have KA2 := Lib.hid ((KA1.out).keptB hb2)
            have KB2 := Lib.hid ((KB1.out).keptB hb2)
            go_wp2_with fail
            refine hK.out _ _ ?_ (fun hHeld => ?_)
            · exact keep6 Q2.out HS0.out
            clear hK K
            try simp only [Act.put, List.setIfInBounds_toArray, List.set_cons_zero, List.set_cons_succ]
            have LA := Lib.hid (KA2.out)
            have LB := Lib.hid (KB2.out)
            have QQ := Lib.hid (Q2.out)
            have sz1 := (Q1.out).size
            have sz2 := (Q2.out).size
            have sz3 := hb2.size
            try simp at sz3
            have leA : W0.heap.size ≤ W0.heap.size := by omega
            have leB : W0.heap.size ≤ W0.heap.size + 1 := by omega
            have neA : ¬ (W0.heap.size = W0.heap.size + 1) := by first | omega | (have := hb1.size; simp at this; omega)
            have neB : ¬ (W0.heap.size + 1 = W0.heap.size) := fun h => neA h.symm
            clear sz1 sz2 sz3
            have la0 := (LA.out).reads (i := 0) rfl; have la1 := (LA.out).reads (i := 1) rfl; have la2 := (LA.out).reads (i := 2) rfl
            have lb0 := (LB.out).reads (i := 0) rfl; have lb1 := (LB.out).reads (i := 1) rfl; have lb2 := (LB.out).reads (i := 2) rfl
            have la3 := (LA.out).open_ 0; have la4 := (LA.out).open_ 1; have la5 := (LA.out).open_ 2
            have lb3 := (LB.out).open_ 0; have lb4 := (LB.out).open_ 1; have lb5 := (LB.out).open_ 2
            refine wpAnyH_ready (rs := [6]) (by kernel_rfl) (by simp) ?_
            refine AllReadyH.cons (at_list rfl) (fun K hK => ?_) AllReadyH.nil
            go_simp
            refine hK.out _ _ ?_ (fun hHeld => ?_)
            · exact keep6 (bput3 QQ.out leA _ _ _) HS0.out
            clear hK K
            try simp only [Act.put, List.setIfInBounds_toArray, List.set_cons_zero, List.set_cons_succ]
            refine wpAnyH_ready (rs := [7]) (by kernel_rfl) (by simp) ?_
            refine AllReadyH.cons (at_list rfl) (fun K hK => ?_) AllReadyH.nil
            go_simp
            refine hK.out _ _ ?_ (fun hHeld => ?_)
            · exact keep6 (bput3 (bput3 QQ.out leA _ _ _) leB _ _ _) HS0.out
            clear hK K
            try simp only [Act.put, List.setIfInBounds_toArray, List.set_cons_zero, List.set_cons_succ]
            refine wpAnyH_done (by kernel_rfl) ?_ _
            refine NoPanic.normal ?_
            go_wp2_with fail
            go_meet
            exact ⟨_, _, rfl, rfl, ((LA.out).put3 _ _ _).aside3 neB _ _ _, ((LB.out).aside3 neA _ _ _).put3 _ _ _, bput3 (bput3 QQ.out leA _ _ _) leB _ _ _⟩
          exact AllReadyH.nil
        exact AllReadyH.nil
      exact AllReadyH.nil
    refine AllReadyH.cons (at_list rfl) (fun K hK => ?_) ?_
    · go_simp
      refine hK.out _ _ ?_ (fun hHeld => ?_)
      · exact keep6 (bdrew (bnew W0 (.cells #[.int .i64 0, .int .i64 0, .bool false] 24))) HS0.out
      clear hK K
      try simp only [Act.put, List.setIfInBounds_toArray, List.set_cons_zero, List.set_cons_succ]
      refine wpAnyH_ready (rs := [1, 4]) (by kernel_rfl) (by simp) ?_
      refine AllReadyH.cons (at_list rfl) (fun K hK => ?_) ?_
      · go_simp
        refine (OW0.out _).mono ?_
        rintro e w1 ⟨rfl, hb1⟩
        have Q1 := Lib.hid (bstep (bdrew (bnew W0 (.cells #[.int .i64 0, .int .i64 0, .bool false] 24))) hb1)
        have KB1 := Lib.hid (((Holds.fresh W0 24 #[.int .i64 0, .int .i64 0, .bool false] (g := W0.heap.size) (by simp)).drew).keptB hb1)
        go_wp2_with fail
        refine hK.out _ _ ?_ (fun hHeld => ?_)
        · exact keep6 Q1.out HS0.out
        clear hK K
        try simp only [Act.put, List.setIfInBounds_toArray, List.set_cons_zero, List.set_cons_succ]
        refine wpAnyH_ready (rs := [3, 4]) (by kernel_rfl) (by simp) ?_
        refine AllReadyH.cons (at_list rfl) (fun K hK => ?_) ?_
        · go_simp
          refine (OW1.out _).mono ?_
          rintro e w2 ⟨rfl, hb2⟩
          have Q2 := Lib.hid (bstep (Q1.out) hb2)
          have KB2 := Lib.hid ((KB1.out).keptB hb2)
          go_wp2_with fail
          refine hK.out _ _ ?_ (fun hHeld => ?_)
          · exact keep6 Q2.out HS0.out
          clear hK K
          try simp only [Act.put, List.setIfInBounds_toArray, List.set_cons_zero, List.set_cons_succ]
          refine wpAnyH_ready (rs := [4]) (by kernel_rfl) (by simp) ?_
          refine AllReadyH.cons (at_list rfl) (fun K hK => ?_) ?_
          · go_simp
            refine hK.out _ _ ?_ (fun hHeld => ?_)
            · exact keep6 (bstep (Q2.out) (bnew _ (.cells #[.int .i64 0, .int .i64 0, .bool false] 24))) HS0.out
            clear hK K
            try simp only [Act.put, List.setIfInBounds_toArray, List.set_cons_zero, List.set_cons_succ]
            have LA := Lib.hid (Holds.fresh w2 24 #[.int .i64 0, .int .i64 0, .bool false] (g := w2.heap.size) (by simp))
            have LB := Lib.hid ((KB2.out).laid (.cells #[.int .i64 0, .int .i64 0, .bool false] 24))
            have QQ := Lib.hid (bstep (Q2.out) (bnew _ (.cells #[.int .i64 0, .int .i64 0, .bool false] 24)))
            have sz1 := (Q1.out).size
            have sz2 := (Q2.out).size
            have sz3 := hb2.size
            try simp at sz3
            have leA : W0.heap.size ≤ w2.heap.size := by omega
            have leB : W0.heap.size ≤ W0.heap.size := by omega
            have neA : ¬ (w2.heap.size = W0.heap.size) := by first | omega | (have := hb1.size; simp at this; omega)
            have neB : ¬ (W0.heap.size = w2.heap.size) := fun h => neA h.symm
            clear sz1 sz2 sz3
            generalize (w2.alloc (.cells #[.int .i64 0, .int .i64 0, .bool false] 24)) = V at *
            have la0 := (LA.out).reads (i := 0) rfl; have la1 := (LA.out).reads (i := 1) rfl; have la2 := (LA.out).reads (i := 2) rfl
            have lb0 := (LB.out).reads (i := 0) rfl; have lb1 := (LB.out).reads (i := 1) rfl; have lb2 := (LB.out).reads (i := 2) rfl
            have la3 := (LA.out).open_ 0; have la4 := (LA.out).open_ 1; have la5 := (LA.out).open_ 2
            have lb3 := (LB.out).open_ 0; have lb4 := (LB.out).open_ 1; have lb5 := (LB.out).open_ 2
            refine wpAnyH_ready (rs := [6]) (by kernel_rfl) (by simp) ?_
            refine AllReadyH.cons (at_list rfl) (fun K hK => ?_) AllReadyH.nil
            go_simp
            refine hK.out _ _ ?_ (fun hHeld => ?_)
            · exact keep6 (bput3 QQ.out leA _ _ _) HS0.out
            clear hK K
            try simp only [Act.put, List.setIfInBounds_toArray, List.set_cons_zero, List.set_cons_succ]
            refine wpAnyH_ready (rs := [7]) (by kernel_rfl) (by simp) ?_
            refine AllReadyH.cons (at_list rfl) (fun K hK => ?_) AllReadyH.nil
            go_simp
            refine hK.out _ _ ?_ (fun hHeld => ?_)
            · exact keep6 (bput3 (bput3 QQ.out leA _ _ _) leB _ _ _) HS0.out
            clear hK K
            try simp only [Act.put, List.setIfInBounds_toArray, List.set_cons_zero, List.set_cons_succ]
            refine wpAnyH_done (by kernel_rfl) ?_ _
            refine NoPanic.normal ?_
            go_wp2_with fail
            go_meet
            exact ⟨_, _, rfl, rfl, ((LA.out).put3 _ _ _).aside3 neB _ _ _, ((LB.out).aside3 neA _ _ _).put3 _ _ _, bput3 (bput3 QQ.out leA _ _ _) leB _ _ _⟩
          exact AllReadyH.nil
        refine AllReadyH.cons (at_list rfl) (fun K hK => ?_) ?_
        · go_simp
          refine hK.out _ _ ?_ (fun hHeld => ?_)
          · exact keep6 (bstep (Q1.out) (bnew _ (.cells #[.int .i64 0, .int .i64 0, .bool false] 24))) HS0.out
          clear hK K
          try simp only [Act.put, List.setIfInBounds_toArray, List.set_cons_zero, List.set_cons_succ]
          refine wpAnyH_ready (rs := [3]) (by kernel_rfl) (by simp) ?_
          refine AllReadyH.cons (at_list rfl) (fun K hK => ?_) ?_
          · go_simp
            refine (OW1.out _).mono ?_
            rintro e w2 ⟨rfl, hb2⟩
            have Q2 := Lib.hid (bstep (bstep (Q1.out) (bnew _ (.cells #[.int .i64 0, .int .i64 0, .bool false] 24))) hb2)
            have KB2 := Lib.hid (((KB1.out).laid (.cells #[.int .i64 0, .int .i64 0, .bool false] 24)).keptB hb2)
            have KA2 := Lib.hid ((Holds.fresh w1 24 #[.int .i64 0, .int .i64 0, .bool false] (g := w1.heap.size) (by simp)).keptB hb2)
            go_wp2_with fail
            refine hK.out _ _ ?_ (fun hHeld => ?_)
            · exact keep6 Q2.out HS0.out
            clear hK K
            try simp only [Act.put, List.setIfInBounds_toArray, List.set_cons_zero, List.set_cons_succ]
            have LA := Lib.hid (KA2.out)
            have LB := Lib.hid (KB2.out)
            have QQ := Lib.hid (Q2.out)
            have sz1 := (Q1.out).size
            have sz2 := (Q2.out).size
            have sz3 := hb2.size
            try simp at sz3
            have leA : W0.heap.size ≤ w1.heap.size := by omega
            have leB : W0.heap.size ≤ W0.heap.size := by omega
            have neA : ¬ (w1.heap.size = W0.heap.size) := by first | omega | (have := hb1.size; simp at this; omega)
            have neB : ¬ (W0.heap.size = w1.heap.size) := fun h => neA h.symm
            clear sz1 sz2 sz3
            have la0 := (LA.out).reads (i := 0) rfl; have la1 := (LA.out).reads (i := 1) rfl; have la2 := (LA.out).reads (i := 2) rfl
            have lb0 := (LB.out).reads (i := 0) rfl; have lb1 := (LB.out).reads (i := 1) rfl; have lb2 := (LB.out).reads (i := 2) rfl
            have la3 := (LA.out).open_ 0; have la4 := (LA.out).open_ 1; have la5 := (LA.out).open_ 2
            have lb3 := (LB.out).open_ 0; have lb4 := (LB.out).open_ 1; have lb5 := (LB.out).open_ 2
            refine wpAnyH_ready (rs := [6]) (by kernel_rfl) (by simp) ?_
            refine AllReadyH.cons (at_list rfl) (fun K hK => ?_) AllReadyH.nil
            go_simp
            refine hK.out _ _ ?_ (fun hHeld => ?_)
            · exact keep6 (bput3 QQ.out leA _ _ _) HS0.out
            clear hK K
            try simp only [Act.put, List.setIfInBounds_toArray, List.set_cons_zero, List.set_cons_succ]
            refine wpAnyH_ready (rs := [7]) (by kernel_rfl) (by simp) ?_
            refine AllReadyH.cons (at_list rfl) (fun K hK => ?_) AllReadyH.nil
            go_simp
            refine hK.out _ _ ?_ (fun hHeld => ?_)
            · exact keep6 (bput3 (bput3 QQ.out leA _ _ _) leB _ _ _) HS0.out
            clear hK K
            try simp only [Act.put, List.setIfInBounds_toArray, List.set_cons_zero, List.set_cons_succ]
            refine wpAnyH_done (by kernel_rfl) ?_ _
            refine NoPanic.normal ?_
            go_wp2_with fail
            go_meet
            exact ⟨_, _, rfl, rfl, ((LA.out).put3 _ _ _).aside3 neB _ _ _, ((LB.out).aside3 neA _ _ _).put3 _ _ _, bput3 (bput3 QQ.out leA _ _ _) leB _ _ _⟩
          exact AllReadyH.nil
        exact AllReadyH.nil
      refine AllReadyH.cons (at_list rfl) (fun K hK => ?_) ?_
      · go_simp
        refine hK.out _ _ ?_ (fun hHeld => ?_)
        · exact keep6 (bdrew (bstep (bnew W0 (.cells #[.int .i64 0, .int .i64 0, .bool false] 24)) (bnew _ (.cells #[.int .i64 0, .int .i64 0, .bool false] 24)))) HS0.out
        clear hK K
        try simp only [Act.put, List.setIfInBounds_toArray, List.set_cons_zero, List.set_cons_succ]
        refine wpAnyH_ready (rs := [1]) (by kernel_rfl) (by simp) ?_
        refine AllReadyH.cons (at_list rfl) (fun K hK => ?_) ?_
        · go_simp
          refine (OW0.out _).mono ?_
          rintro e w1 ⟨rfl, hb1⟩
          have Q1 := Lib.hid (bstep (bdrew (bstep (bnew W0 (.cells #[.int .i64 0, .int .i64 0, .bool false] 24)) (bnew _ (.cells #[.int .i64 0, .int .i64 0, .bool false] 24)))) hb1)
          have KB1 := Lib.hid (((((Holds.fresh W0 24 #[.int .i64 0, .int .i64 0, .bool false] (g := W0.heap.size) (by simp))).laid (.cells #[.int .i64 0, .int .i64 0, .bool false] 24)).drew).keptB hb1)
          have KA1 := Lib.hid (((Holds.fresh (W0.alloc (.cells #[.int .i64 0, .int .i64 0, .bool false] 24)) 24 #[.int .i64 0, .int .i64 0, .bool false] (g := W0.heap.size + 1) (by simp)).drew).keptB hb1)
          go_wp2_with fail
          refine hK.out _ _ ?_ (fun hHeld => ?_)
          · exact keep6 Q1.out HS0.out
          clear hK K
          try simp only [Act.put, List.setIfInBounds_toArray, List.set_cons_zero, List.set_cons_succ]
          refine wpAnyH_ready (rs := [3]) (by kernel_rfl) (by simp) ?_
          refine AllReadyH.cons (at_list rfl) (fun K hK => ?_) ?_
          · go_simp
            refine (OW1.out _).mono ?_
            rintro e w2 ⟨rfl, hb2⟩
            have Q2 := Lib.hid (bstep (Q1.out) hb2)
            have KB2 := Lib.hid ((KB1.out).keptB hb2)
            have KA2 := Lib.hid ((KA1.out).keptB hb2)
            go_wp2_with fail
            refine hK.out _ _ ?_ (fun hHeld => ?_)
            · exact keep6 Q2.out HS0.out
            clear hK K
            try simp only [Act.put, List.setIfInBounds_toArray, List.set_cons_zero, List.set_cons_succ]
            have LA := Lib.hid (KA2.out)
            have LB := Lib.hid (KB2.out)
            have QQ := Lib.hid (Q2.out)
            have sz1 := (Q1.out).size
            have sz2 := (Q2.out).size
            have sz3 := hb2.size
            try simp at sz3
            have leA : W0.heap.size ≤ W0.heap.size + 1 := by omega
            have leB : W0.heap.size ≤ W0.heap.size := by omega
            have neA : ¬ (W0.heap.size + 1 = W0.heap.size) := by first | omega | (have := hb1.size; simp at this; omega)
            have neB : ¬ (W0.heap.size = W0.heap.size + 1) := fun h => neA h.symm
            clear sz1 sz2 sz3
            have la0 := (LA.out).reads (i := 0) rfl; have la1 := (LA.out).reads (i := 1) rfl; have la2 := (LA.out).reads (i := 2) rfl
            have lb0 := (LB.out).reads (i := 0) rfl; have lb1 := (LB.out).reads (i := 1) rfl; have lb2 := (LB.out).reads (i := 2) rfl
            have la3 := (LA.out).open_ 0; have la4 := (LA.out).open_ 1; have la5 := (LA.out).open_ 2
            have lb3 := (LB.out).open_ 0; have lb4 := (LB.out).open_ 1; have lb5 := (LB.out).open_ 2
            refine wpAnyH_ready (rs := [6]) (by kernel_rfl) (by simp) ?_
            refine AllReadyH.cons (at_list rfl) (fun K hK => ?_) AllReadyH.nil
            go_simp
            refine hK.out _ _ ?_ (fun hHeld => ?_)
            · exact keep6 (bput3 QQ.out leA _ _ _) HS0.out
            clear hK K
            try simp only [Act.put, List.setIfInBounds_toArray, List.set_cons_zero, List.set_cons_succ]
            refine wpAnyH_ready (rs := [7]) (by kernel_rfl) (by simp) ?_
            refine AllReadyH.cons (at_list rfl) (fun K hK => ?_) AllReadyH.nil
            go_simp
            refine hK.out _ _ ?_ (fun hHeld => ?_)
            · exact keep6 (bput3 (bput3 QQ.out leA _ _ _) leB _ _ _) HS0.out
            clear hK K
            try simp only [Act.put, List.setIfInBounds_toArray, List.set_cons_zero, List.set_cons_succ]
            refine wpAnyH_done (by kernel_rfl) ?_ _
            refine NoPanic.normal ?_
            go_wp2_with fail
            go_meet
            exact ⟨_, _, rfl, rfl, ((LA.out).put3 _ _ _).aside3 neB _ _ _, ((LB.out).aside3 neA _ _ _).put3 _ _ _, bput3 (bput3 QQ.out leA _ _ _) leB _ _ _⟩
          exact AllReadyH.nil
        exact AllReadyH.nil
      exact AllReadyH.nil
    exact AllReadyH.nil
  case rest =>
    obtain ⟨g7, g8, rfl, rfl, kA, kB, hb⟩ := hcut
    have K7 := Lib.hid kA
    have K8 := Lib.hid kB
    replace K0 := Lib.hid ((K0.out).keptB hb)
    replace K1 := Lib.hid ((K1.out).keptB hb)
    replace K5 := Lib.hid ((K5.out).keptB hb)
    replace HB := Lib.hid (bstep HB.out hb)
    clear kA kB hb HS0
    clear x1_0 x1_1 x1_2 x2_0 x2_1 x2_2
    clear K0 K1
    go_wp2_with fail
    have x3_0 := (K5.out).reads (i := 0) rfl
    have x3_1 := (K5.out).reads (i := 1) rfl
    go_region_held3 (fun v => v.cell? ⟨w.heap.size + 1 + 1, 0, none⟩ = some (.int .i64 m) ∧ v.cell? ⟨w.heap.size + 1 + 1, 1, none⟩ = some (.int .i64 n))
      (first | (with_reducible exact keep2 (by assumption) (by assumption)) | (with_reducible exact keep2 (bnew _ _) (by assumption)) | (exact ⟨x3_0, x3_1⟩) | go_keep)
      (fail)
    have HV5 := Lib.hid (bdrew (Below.refl (wc).heap.size wc))
    clear x3_0 x3_1
    replace K5 := Lib.hid ((K5.out).keptB HV5.out)
    replace K7 := Lib.hid ((K7.out).keptB HV5.out)
    replace K8 := Lib.hid ((K8.out).keptB HV5.out)
    replace HB := Lib.hid (bstep HB.out HV5.out)
    clear HV5
    cases R1
    · have x6_0 := (K7.out).reads (i := 0) rfl
      have x6_1 := (K7.out).reads (i := 1) rfl
      have x6_2 := (K7.out).reads (i := 2) rfl
      go_wp2_with fail
      refine (PR1.out _).mono ?_
      rintro e w7 ⟨rfl, hw7⟩
      clear x6_0 x6_1 x6_2
      replace K5 := Lib.hid ((K5.out).keptB hw7)
      replace K7 := Lib.hid ((K7.out).keptB hw7)
      replace K8 := Lib.hid ((K8.out).keptB hw7)
      replace HB := Lib.hid (bstep HB.out hw7)
      clear hw7
      go_wp2_with fail
      refine (alive3_any _).mono ?_
      rintro e w8 ⟨rfl, hw8⟩
      replace K5 := Lib.hid ((K5.out).keptB hw8)
      replace K7 := Lib.hid ((K7.out).keptB hw8)
      replace K8 := Lib.hid ((K8.out).keptB hw8)
      replace HB := Lib.hid (bstep HB.out hw8)
      clear hw8
      go_wp2
      go_ret
      exact ⟨rfl, HB.out⟩
    · cases R2
      · have x6_0 := (K7.out).reads (i := 0) rfl
        have x6_1 := (K7.out).reads (i := 1) rfl
        have x6_2 := (K7.out).reads (i := 2) rfl
        go_wp2_with fail
        refine (PR1.out _).mono ?_
        rintro e w7 ⟨rfl, hw7⟩
        clear x6_0 x6_1 x6_2
        replace K5 := Lib.hid ((K5.out).keptB hw7)
        replace K7 := Lib.hid ((K7.out).keptB hw7)
        replace K8 := Lib.hid ((K8.out).keptB hw7)
        replace HB := Lib.hid (bstep HB.out hw7)
        clear hw7
        have x8_0 := (K8.out).reads (i := 0) rfl
        have x8_1 := (K8.out).reads (i := 1) rfl
        have x8_2 := (K8.out).reads (i := 2) rfl
        go_wp2_with fail
        refine (PR2.out _).mono ?_
        rintro e w9 ⟨rfl, hw9⟩
        clear x8_0 x8_1 x8_2
        replace K5 := Lib.hid ((K5.out).keptB hw9)
        replace K7 := Lib.hid ((K7.out).keptB hw9)
        replace K8 := Lib.hid ((K8.out).keptB hw9)
        replace HB := Lib.hid (bstep HB.out hw9)
        clear hw9
        go_wp2_with fail
        refine (alive3_any _).mono ?_
        rintro e w10 ⟨rfl, hw10⟩
        replace K5 := Lib.hid ((K5.out).keptB hw10)
        replace K7 := Lib.hid ((K7.out).keptB hw10)
        replace K8 := Lib.hid ((K8.out).keptB hw10)
        replace HB := Lib.hid (bstep HB.out hw10)
        clear hw10
        go_wp2
        go_ret
        exact ⟨rfl, HB.out⟩
      · cases H1
        · have x6_0 := (K7.out).reads (i := 0) rfl
          have x6_1 := (K7.out).reads (i := 1) rfl
          have x6_2 := (K7.out).reads (i := 2) rfl
          go_wp2_with fail
          refine (PR1.out _).mono ?_
          rintro e w7 ⟨rfl, hw7⟩
          clear x6_0 x6_1 x6_2
          replace K5 := Lib.hid ((K5.out).keptB hw7)
          replace K7 := Lib.hid ((K7.out).keptB hw7)
          replace K8 := Lib.hid ((K8.out).keptB hw7)
          replace HB := Lib.hid (bstep HB.out hw7)
          clear hw7
          have x8_0 := (K8.out).reads (i := 0) rfl
          have x8_1 := (K8.out).reads (i := 1) rfl
          have x8_2 := (K8.out).reads (i := 2) rfl
          go_wp2_with fail
          refine (PR2.out _).mono ?_
          rintro e w9 ⟨rfl, hw9⟩
          clear x8_0 x8_1 x8_2
          replace K5 := Lib.hid ((K5.out).keptB hw9)
          replace K7 := Lib.hid ((K7.out).keptB hw9)
          replace K8 := Lib.hid ((K8.out).keptB hw9)
          replace HB := Lib.hid (bstep HB.out hw9)
          clear hw9
          have x10_0 := (K7.out).reads (i := 0) rfl
          have x10_1 := (K7.out).reads (i := 1) rfl
          have x10_2 := (K7.out).reads (i := 2) rfl
          go_wp2_with fail
          refine (PH1.out _).mono ?_
          rintro e w11 ⟨rfl, hw11⟩
          clear x10_0 x10_1 x10_2
          replace K5 := Lib.hid ((K5.out).keptB hw11)
          replace K7 := Lib.hid ((K7.out).keptB hw11)
          replace K8 := Lib.hid ((K8.out).keptB hw11)
          replace HB := Lib.hid (bstep HB.out hw11)
          clear hw11
          go_wp2_with fail
          refine (alive3_any _).mono ?_
          rintro e w12 ⟨rfl, hw12⟩
          replace K5 := Lib.hid ((K5.out).keptB hw12)
          replace K7 := Lib.hid ((K7.out).keptB hw12)
          replace K8 := Lib.hid ((K8.out).keptB hw12)
          replace HB := Lib.hid (bstep HB.out hw12)
          clear hw12
          go_wp2
          go_ret
          exact ⟨rfl, HB.out⟩
        · cases H2
          · have x6_0 := (K7.out).reads (i := 0) rfl
            have x6_1 := (K7.out).reads (i := 1) rfl
            have x6_2 := (K7.out).reads (i := 2) rfl
            go_wp2_with fail
            refine (PR1.out _).mono ?_
            rintro e w7 ⟨rfl, hw7⟩
            clear x6_0 x6_1 x6_2
            replace K5 := Lib.hid ((K5.out).keptB hw7)
            replace K7 := Lib.hid ((K7.out).keptB hw7)
            replace K8 := Lib.hid ((K8.out).keptB hw7)
            replace HB := Lib.hid (bstep HB.out hw7)
            clear hw7
            have x8_0 := (K8.out).reads (i := 0) rfl
            have x8_1 := (K8.out).reads (i := 1) rfl
            have x8_2 := (K8.out).reads (i := 2) rfl
            go_wp2_with fail
            refine (PR2.out _).mono ?_
            rintro e w9 ⟨rfl, hw9⟩
            clear x8_0 x8_1 x8_2
            replace K5 := Lib.hid ((K5.out).keptB hw9)
            replace K7 := Lib.hid ((K7.out).keptB hw9)
            replace K8 := Lib.hid ((K8.out).keptB hw9)
            replace HB := Lib.hid (bstep HB.out hw9)
            clear hw9
            have x10_0 := (K7.out).reads (i := 0) rfl
            have x10_1 := (K7.out).reads (i := 1) rfl
            have x10_2 := (K7.out).reads (i := 2) rfl
            go_wp2_with fail
            refine (PH1.out _).mono ?_
            rintro e w11 ⟨rfl, hw11⟩
            clear x10_0 x10_1 x10_2
            replace K5 := Lib.hid ((K5.out).keptB hw11)
            replace K7 := Lib.hid ((K7.out).keptB hw11)
            replace K8 := Lib.hid ((K8.out).keptB hw11)
            replace HB := Lib.hid (bstep HB.out hw11)
            clear hw11
            have x12_0 := (K8.out).reads (i := 0) rfl
            have x12_1 := (K8.out).reads (i := 1) rfl
            have x12_2 := (K8.out).reads (i := 2) rfl
            go_wp2_with fail
            refine (PH2.out _).mono ?_
            rintro e w13 ⟨rfl, hw13⟩
            clear x12_0 x12_1 x12_2
            replace K5 := Lib.hid ((K5.out).keptB hw13)
            replace K7 := Lib.hid ((K7.out).keptB hw13)
            replace K8 := Lib.hid ((K8.out).keptB hw13)
            replace HB := Lib.hid (bstep HB.out hw13)
            clear hw13
            go_wp2_with fail
            refine (alive3_any _).mono ?_
            rintro e w14 ⟨rfl, hw14⟩
            replace K5 := Lib.hid ((K5.out).keptB hw14)
            replace K7 := Lib.hid ((K7.out).keptB hw14)
            replace K8 := Lib.hid ((K8.out).keptB hw14)
            replace HB := Lib.hid (bstep HB.out hw14)
            clear hw14
            go_wp2
            go_ret
            exact ⟨rfl, HB.out⟩
          · have x6_0 := (K7.out).reads (i := 0) rfl
            have x6_1 := (K7.out).reads (i := 1) rfl
            have x6_2 := (K7.out).reads (i := 2) rfl
            go_wp2_with fail
            refine (PR1.out _).mono ?_
            rintro e w7 ⟨rfl, hw7⟩
            clear x6_0 x6_1 x6_2
            replace K5 := Lib.hid ((K5.out).keptB hw7)
            replace K7 := Lib.hid ((K7.out).keptB hw7)
            replace K8 := Lib.hid ((K8.out).keptB hw7)
            replace HB := Lib.hid (bstep HB.out hw7)
            clear hw7
            have x8_0 := (K8.out).reads (i := 0) rfl
            have x8_1 := (K8.out).reads (i := 1) rfl
            have x8_2 := (K8.out).reads (i := 2) rfl
            go_wp2_with fail
            refine (PR2.out _).mono ?_
            rintro e w9 ⟨rfl, hw9⟩
            clear x8_0 x8_1 x8_2
            replace K5 := Lib.hid ((K5.out).keptB hw9)
            replace K7 := Lib.hid ((K7.out).keptB hw9)
            replace K8 := Lib.hid ((K8.out).keptB hw9)
            replace HB := Lib.hid (bstep HB.out hw9)
            clear hw9
            have x10_0 := (K7.out).reads (i := 0) rfl
            have x10_1 := (K7.out).reads (i := 1) rfl
            have x10_2 := (K7.out).reads (i := 2) rfl
            go_wp2_with fail
            refine (PH1.out _).mono ?_
            rintro e w11 ⟨rfl, hw11⟩
            clear x10_0 x10_1 x10_2
            replace K5 := Lib.hid ((K5.out).keptB hw11)
            replace K7 := Lib.hid ((K7.out).keptB hw11)
            replace K8 := Lib.hid ((K8.out).keptB hw11)
            replace HB := Lib.hid (bstep HB.out hw11)
            clear hw11
            have x12_0 := (K8.out).reads (i := 0) rfl
            have x12_1 := (K8.out).reads (i := 1) rfl
            have x12_2 := (K8.out).reads (i := 2) rfl
            go_wp2_with fail
            refine (PH2.out _).mono ?_
            rintro e w13 ⟨rfl, hw13⟩
            clear x12_0 x12_1 x12_2
            replace K5 := Lib.hid ((K5.out).keptB hw13)
            replace K7 := Lib.hid ((K7.out).keptB hw13)
            replace K8 := Lib.hid ((K8.out).keptB hw13)
            replace HB := Lib.hid (bstep HB.out hw13)
            clear hw13
            cases B1
            · cases B2
              · go_wp2_with fail
                refine (PS.out _).mono ?_
                rintro e w14 ⟨rfl, hw14⟩
                replace K5 := Lib.hid ((K5.out).keptB hw14)
                replace K7 := Lib.hid ((K7.out).keptB hw14)
                replace K8 := Lib.hid ((K8.out).keptB hw14)
                replace HB := Lib.hid (bstep HB.out hw14)
                clear hw14
                go_wp2_with fail
                refine (PD.out _).mono ?_
                rintro e w15 ⟨rfl, hw15⟩
                replace K5 := Lib.hid ((K5.out).keptB hw15)
                replace K7 := Lib.hid ((K7.out).keptB hw15)
                replace K8 := Lib.hid ((K8.out).keptB hw15)
                replace HB := Lib.hid (bstep HB.out hw15)
                clear hw15
                go_wp2_with fail
                refine (alive3_any _).mono ?_
                rintro e w16 ⟨rfl, hw16⟩
                replace K5 := Lib.hid ((K5.out).keptB hw16)
                replace K7 := Lib.hid ((K7.out).keptB hw16)
                replace K8 := Lib.hid ((K8.out).keptB hw16)
                replace HB := Lib.hid (bstep HB.out hw16)
                clear hw16
                go_wp2
                go_ret
                exact ⟨rfl, HB.out⟩
              · rw [HD.out (by trivial) (by trivial) (by trivial)] at PA3
                go_wp2_with fail
                refine (PS.out _).mono ?_
                rintro e w14 ⟨rfl, hw14⟩
                replace K5 := Lib.hid ((K5.out).keptB hw14)
                replace K7 := Lib.hid ((K7.out).keptB hw14)
                replace K8 := Lib.hid ((K8.out).keptB hw14)
                replace HB := Lib.hid (bstep HB.out hw14)
                clear hw14
                go_wp2_with fail
                refine (PD.out _).mono ?_
                rintro e w15 ⟨rfl, hw15⟩
                replace K5 := Lib.hid ((K5.out).keptB hw15)
                replace K7 := Lib.hid ((K7.out).keptB hw15)
                replace K8 := Lib.hid ((K8.out).keptB hw15)
                replace HB := Lib.hid (bstep HB.out hw15)
                clear hw15
                go_wp2_with fail
                refine (alive3_any _).mono ?_
                rintro e w16 ⟨rfl, hw16⟩
                replace K5 := Lib.hid ((K5.out).keptB hw16)
                replace K7 := Lib.hid ((K7.out).keptB hw16)
                replace K8 := Lib.hid ((K8.out).keptB hw16)
                replace HB := Lib.hid (bstep HB.out hw16)
                clear hw16
                have x17_0 := (K7.out).reads (i := 0) rfl
                have x17_1 := (K7.out).reads (i := 1) rfl
                have x17_2 := (K7.out).reads (i := 2) rfl
                have x18_0 := (K8.out).reads (i := 0) rfl
                have x18_1 := (K8.out).reads (i := 1) rfl
                have x18_2 := (K8.out).reads (i := 2) rfl
                go_wp2_with fail
                refine (PX3.out _).mono ?_
                rintro e w19 ⟨rfl, hw19⟩
                clear x17_0 x17_1 x17_2 x18_0 x18_1 x18_2
                replace K5 := Lib.hid ((K5.out).keptB hw19)
                replace K7 := Lib.hid ((K7.out).keptB hw19)
                replace K8 := Lib.hid ((K8.out).keptB hw19)
                replace HB := Lib.hid (bstep HB.out hw19)
                clear hw19
                go_wp2_with fail
                refine (PA3.out _).mono ?_
                rintro e w20 ⟨rfl, hw20⟩
                replace K5 := Lib.hid ((K5.out).keptB hw20)
                replace K7 := Lib.hid ((K7.out).keptB hw20)
                replace K8 := Lib.hid ((K8.out).keptB hw20)
                replace HB := Lib.hid (bstep HB.out hw20)
                clear hw20
                go_wp2
                go_ret
                exact ⟨rfl, HB.out⟩
            · rw [(HA.out (by trivial) (by trivial) (by trivial)).1] at PA1
              rw [(HA.out (by trivial) (by trivial) (by trivial)).2] at PA2
              cases B2
              · go_wp2_with fail
                refine (PS.out _).mono ?_
                rintro e w14 ⟨rfl, hw14⟩
                replace K5 := Lib.hid ((K5.out).keptB hw14)
                replace K7 := Lib.hid ((K7.out).keptB hw14)
                replace K8 := Lib.hid ((K8.out).keptB hw14)
                replace HB := Lib.hid (bstep HB.out hw14)
                clear hw14
                go_wp2_with fail
                refine (PD.out _).mono ?_
                rintro e w15 ⟨rfl, hw15⟩
                replace K5 := Lib.hid ((K5.out).keptB hw15)
                replace K7 := Lib.hid ((K7.out).keptB hw15)
                replace K8 := Lib.hid ((K8.out).keptB hw15)
                replace HB := Lib.hid (bstep HB.out hw15)
                clear hw15
                go_wp2_with fail
                refine (alive3_any _).mono ?_
                rintro e w16 ⟨rfl, hw16⟩
                replace K5 := Lib.hid ((K5.out).keptB hw16)
                replace K7 := Lib.hid ((K7.out).keptB hw16)
                replace K8 := Lib.hid ((K8.out).keptB hw16)
                replace HB := Lib.hid (bstep HB.out hw16)
                clear hw16
                have x17_0 := (K7.out).reads (i := 0) rfl
                have x17_1 := (K7.out).reads (i := 1) rfl
                have x17_2 := (K7.out).reads (i := 2) rfl
                have x18_0 := (K8.out).reads (i := 0) rfl
                have x18_1 := (K8.out).reads (i := 1) rfl
                have x18_2 := (K8.out).reads (i := 2) rfl
                go_wp2_with fail
                refine (PX1.out _).mono ?_
                rintro e w19 ⟨rfl, hw19⟩
                clear x17_0 x17_1 x17_2 x18_0 x18_1 x18_2
                replace K5 := Lib.hid ((K5.out).keptB hw19)
                replace K7 := Lib.hid ((K7.out).keptB hw19)
                replace K8 := Lib.hid ((K8.out).keptB hw19)
                replace HB := Lib.hid (bstep HB.out hw19)
                clear hw19
                go_wp2_with fail
                refine (PA1.out _).mono ?_
                rintro e w20 ⟨rfl, hw20⟩
                replace K5 := Lib.hid ((K5.out).keptB hw20)
                replace K7 := Lib.hid ((K7.out).keptB hw20)
                replace K8 := Lib.hid ((K8.out).keptB hw20)
                replace HB := Lib.hid (bstep HB.out hw20)
                clear hw20
                have x21_0 := (K7.out).reads (i := 0) rfl
                have x21_1 := (K7.out).reads (i := 1) rfl
                have x21_2 := (K7.out).reads (i := 2) rfl
                go_wp2_with fail
                refine (PX2.out _).mono ?_
                rintro e w22 ⟨rfl, hw22⟩
                clear x21_0 x21_1 x21_2
                replace K5 := Lib.hid ((K5.out).keptB hw22)
                replace K7 := Lib.hid ((K7.out).keptB hw22)
                replace K8 := Lib.hid ((K8.out).keptB hw22)
                replace HB := Lib.hid (bstep HB.out hw22)
                clear hw22
                go_wp2_with fail
                refine (PA2.out _).mono ?_
                rintro e w23 ⟨rfl, hw23⟩
                replace K5 := Lib.hid ((K5.out).keptB hw23)
                replace K7 := Lib.hid ((K7.out).keptB hw23)
                replace K8 := Lib.hid ((K8.out).keptB hw23)
                replace HB := Lib.hid (bstep HB.out hw23)
                clear hw23
                go_wp2
                go_ret
                exact ⟨rfl, HB.out⟩
              · rw [HD.out (by trivial) (by trivial) (by trivial)] at PA3
                go_wp2_with fail
                refine (PS.out _).mono ?_
                rintro e w14 ⟨rfl, hw14⟩
                replace K5 := Lib.hid ((K5.out).keptB hw14)
                replace K7 := Lib.hid ((K7.out).keptB hw14)
                replace K8 := Lib.hid ((K8.out).keptB hw14)
                replace HB := Lib.hid (bstep HB.out hw14)
                clear hw14
                go_wp2_with fail
                refine (PD.out _).mono ?_
                rintro e w15 ⟨rfl, hw15⟩
                replace K5 := Lib.hid ((K5.out).keptB hw15)
                replace K7 := Lib.hid ((K7.out).keptB hw15)
                replace K8 := Lib.hid ((K8.out).keptB hw15)
                replace HB := Lib.hid (bstep HB.out hw15)
                clear hw15
                go_wp2_with fail
                refine (alive3_any _).mono ?_
                rintro e w16 ⟨rfl, hw16⟩
                replace K5 := Lib.hid ((K5.out).keptB hw16)
                replace K7 := Lib.hid ((K7.out).keptB hw16)
                replace K8 := Lib.hid ((K8.out).keptB hw16)
                replace HB := Lib.hid (bstep HB.out hw16)
                clear hw16
                have x17_0 := (K7.out).reads (i := 0) rfl
                have x17_1 := (K7.out).reads (i := 1) rfl
                have x17_2 := (K7.out).reads (i := 2) rfl
                have x18_0 := (K8.out).reads (i := 0) rfl
                have x18_1 := (K8.out).reads (i := 1) rfl
                have x18_2 := (K8.out).reads (i := 2) rfl
                go_wp2_with fail
                refine (PX1.out _).mono ?_
                rintro e w19 ⟨rfl, hw19⟩
                clear x17_0 x17_1 x17_2 x18_0 x18_1 x18_2
                replace K5 := Lib.hid ((K5.out).keptB hw19)
                replace K7 := Lib.hid ((K7.out).keptB hw19)
                replace K8 := Lib.hid ((K8.out).keptB hw19)
                replace HB := Lib.hid (bstep HB.out hw19)
                clear hw19
                go_wp2_with fail
                refine (PA1.out _).mono ?_
                rintro e w20 ⟨rfl, hw20⟩
                replace K5 := Lib.hid ((K5.out).keptB hw20)
                replace K7 := Lib.hid ((K7.out).keptB hw20)
                replace K8 := Lib.hid ((K8.out).keptB hw20)
                replace HB := Lib.hid (bstep HB.out hw20)
                clear hw20
                have x21_0 := (K7.out).reads (i := 0) rfl
                have x21_1 := (K7.out).reads (i := 1) rfl
                have x21_2 := (K7.out).reads (i := 2) rfl
                go_wp2_with fail
                refine (PX2.out _).mono ?_
                rintro e w22 ⟨rfl, hw22⟩
                clear x21_0 x21_1 x21_2
                replace K5 := Lib.hid ((K5.out).keptB hw22)
                replace K7 := Lib.hid ((K7.out).keptB hw22)
                replace K8 := Lib.hid ((K8.out).keptB hw22)
                replace HB := Lib.hid (bstep HB.out hw22)
                clear hw22
                go_wp2_with fail
                refine (PA2.out _).mono ?_
                rintro e w23 ⟨rfl, hw23⟩
                replace K5 := Lib.hid ((K5.out).keptB hw23)
                replace K7 := Lib.hid ((K7.out).keptB hw23)
                replace K8 := Lib.hid ((K8.out).keptB hw23)
                replace HB := Lib.hid (bstep HB.out hw23)
                clear hw23
                have x24_0 := (K7.out).reads (i := 0) rfl
                have x24_1 := (K7.out).reads (i := 1) rfl
                have x24_2 := (K7.out).reads (i := 2) rfl
                have x25_0 := (K8.out).reads (i := 0) rfl
                have x25_1 := (K8.out).reads (i := 1) rfl
                have x25_2 := (K8.out).reads (i := 2) rfl
                go_wp2_with fail
                refine (PX3.out _).mono ?_
                rintro e w26 ⟨rfl, hw26⟩
                clear x24_0 x24_1 x24_2 x25_0 x25_1 x25_2
                replace K5 := Lib.hid ((K5.out).keptB hw26)
                replace K7 := Lib.hid ((K7.out).keptB hw26)
                replace K8 := Lib.hid ((K8.out).keptB hw26)
                replace HB := Lib.hid (bstep HB.out hw26)
                clear hw26
                go_wp2_with fail
                refine (PA3.out _).mono ?_
                rintro e w27 ⟨rfl, hw27⟩
                replace K5 := Lib.hid ((K5.out).keptB hw27)
                replace K7 := Lib.hid ((K7.out).keptB hw27)
                replace K8 := Lib.hid ((K8.out).keptB hw27)
                replace HB := Lib.hid (bstep HB.out hw27)
                clear hw27
                go_wp2
                go_ret
                exact ⟨rfl, HB.out⟩

end Go.Proofs.Ytcjfiipcmaegnaa
