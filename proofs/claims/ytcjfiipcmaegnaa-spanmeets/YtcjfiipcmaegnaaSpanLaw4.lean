/- The walk over the law SpanMeets. -/
import Derived.Test.YtcjfiipcmaegnaaSpanLawWords
namespace Go.Proofs.Ytcjfiipcmaegnaa
open Go.RowKit
set_option linter.unusedVariables false

set_option maxRecDepth 100000 in
set_option maxHeartbeats 4000000 in
theorem spanmeets_walk (s o : Sp) (n : Int) (w : World) :
    Calls Try.prog 6 #[.agg #[.int .i64 (s).lo, .int .i64 (s).hi, .bool (s).k], .agg #[.int .i64 (o).lo, .int .i64 (o).hi, .bool (o).k], .int .i64 n] w fun e w' => e = .returned (.bool true) ∧ Below w.heap.size w w' := by
  obtain ⟨A, HA⟩ : ∃ A, Hid (hasS s n = A) := ⟨_, Lib.hid rfl⟩
  have PA := Lib.hid (has3_any s n)
  rw [HA.out] at PA
  obtain ⟨B, HB⟩ : ∃ B, Hid (hasS o n = B) := ⟨_, Lib.hid rfl⟩
  have PB := Lib.hid (has3_any o n)
  rw [HB.out] at PB
  obtain ⟨C, HC⟩ : ∃ C, Hid ((A && B) = C) := ⟨_, Lib.hid rfl⟩
  obtain ⟨M, HM⟩ : ∃ M, Hid (meetS s o = M) := ⟨_, Lib.hid rfl⟩
  have PM := Lib.hid (meet3_any s o)
  rw [HM.out] at PM
  have PM2 := Lib.hid (meet3_any o s)
  rw [← meet_comm, HM.out] at PM2
  have SM := Lib.hid (same3_eq M)
  obtain ⟨H, HH⟩ : ∃ H, Hid (hullS s o = H) := ⟨_, Lib.hid rfl⟩
  have PH := Lib.hid (hull3_any s o)
  rw [HH.out] at PH
  have PH2 := Lib.hid (hull3_any o s)
  rw [← hull_comm, HH.out] at PH2
  have SH := Lib.hid (same3_eq H)
  obtain ⟨Y, HY⟩ : ∃ Y, Hid (hasS M n = Y) := ⟨_, Lib.hid rfl⟩
  have PMH := Lib.hid (has3_any M n)
  rw [HY.out] at PMH
  obtain ⟨Z, HZ⟩ : ∃ Z, Hid (hasS H n = Z) := ⟨_, Lib.hid rfl⟩
  have PHH := Lib.hid (has3_any H n)
  rw [HZ.out] at PHH
  obtain ⟨R1, HR1⟩ : ∃ R1, Hid (rgtB s = R1) := ⟨_, Lib.hid rfl⟩
  have PR1 := Lib.hid (right3_any s)
  rw [HR1.out] at PR1
  obtain ⟨R2, HR2⟩ : ∃ R2, Hid (rgtB o = R2) := ⟨_, Lib.hid rfl⟩
  have PR2 := Lib.hid (right3_any o)
  rw [HR2.out] at PR2
  obtain ⟨V1, HV1⟩ : ∃ V1, Hid (withinS M s = V1) := ⟨_, Lib.hid rfl⟩
  have PV1 := Lib.hid (within3_any M s)
  rw [HV1.out] at PV1
  obtain ⟨V2, HV2⟩ : ∃ V2, Hid (withinS M o = V2) := ⟨_, Lib.hid rfl⟩
  have PV2 := Lib.hid (within3_any M o)
  rw [HV2.out] at PV2
  have F1 : Hid (A = true → B = true → Y = true) := by
    intro h1 h2
    rw [← HY.out, ← HM.out]
    exact meet_has (HA.out.trans h1) (HB.out.trans h2)
  have F2 : Hid (A = true ∨ B = true → Z = true) := by
    intro h
    rw [← HZ.out, ← HH.out]
    exact hull_has (h.imp (fun h => HA.out.trans h) (fun h => HB.out.trans h))
  have F3 : Hid (M.k = true → s.k = true → o.k = true → R1 = true → R2 = true → Y = C ∧ V1 = true ∧ V2 = true) := by
    intro h1 h2 h3 h4 h5
    rw [← HM.out] at h1
    have h := meet_in (n := n) h1 (rgt_bnd h2 (HR1.out.trans h4)) (rgt_bnd h3 (HR2.out.trans h5))
    rw [HM.out, HY.out, HV1.out, HV2.out, HA.out, HB.out, HC.out] at h
    exact h
  have OW0 := Lib.hid (own3_any s)
  have OW1 := Lib.hid (own3_any o)
  clear HA HB HM HH HY HZ HR1 HR2 HV1 HV2
  have K0 := Lib.hid (Holds.fresh w 23 #[.int .i64 s.lo, .int .i64 s.hi, .bool s.k] (g := w.heap.size) (by simp))
  replace K0 := Lib.hid ((K0.out).laid (.cells #[.int .i64 o.lo, .int .i64 o.hi, .bool o.k] 23))
  have K1 := Lib.hid (Holds.fresh (w.alloc (.cells #[.int .i64 s.lo, .int .i64 s.hi, .bool s.k] 23)) 23 #[.int .i64 o.lo, .int .i64 o.hi, .bool o.k] (g := w.heap.size + 1) (by simp))
  have HB := Lib.hid (bstep (bnew w (.cells #[.int .i64 s.lo, .int .i64 s.hi, .bool s.k] 23)) (bnew _ (.cells #[.int .i64 o.lo, .int .i64 o.hi, .bool o.k] 23)))
  go_enter Try.func6, Try.ntmps6
  go_upto_region 1 with fail
  generalize ((w.alloc (.cells #[.int .i64 s.lo, .int .i64 s.hi, .bool s.k] 23)).alloc (.cells #[.int .i64 o.lo, .int .i64 o.hi, .bool o.k] 23)) = W0 at *
  go_wp2_with fail
  have x1_0 := (K0.out).reads (i := 0) rfl
  have x1_1 := (K0.out).reads (i := 1) rfl
  have x1_2 := (K0.out).reads (i := 2) rfl
  have x2_0 := (K1.out).reads (i := 0) rfl
  have x2_1 := (K1.out).reads (i := 1) rfl
  have x2_2 := (K1.out).reads (i := 2) rfl
  have HS0 := Lib.hid (show W0.cell? ⟨w.heap.size, 0, none⟩ = some (.int .i64 s.lo) ∧ W0.cell? ⟨w.heap.size, 1, none⟩ = some (.int .i64 s.hi) ∧ W0.cell? ⟨w.heap.size, 2, none⟩ = some (.bool s.k) ∧ W0.cell? ⟨w.heap.size + 1, 0, none⟩ = some (.int .i64 o.lo) ∧ W0.cell? ⟨w.heap.size + 1, 1, none⟩ = some (.int .i64 o.hi) ∧ W0.cell? ⟨w.heap.size + 1, 2, none⟩ = some (.bool o.k) from ⟨x1_0, x1_1, x1_2, x2_0, x2_1, x2_2⟩)
  go_cut [7, 8] (fun p q wx => Pair s o W0 p q wx)
  case first =>
    refine wp_region_noPanic ?_
    refine wp_region_held_drew (S := fun v => v.cell? ⟨w.heap.size, 0, none⟩ = some (.int .i64 s.lo) ∧ v.cell? ⟨w.heap.size, 1, none⟩ = some (.int .i64 s.hi) ∧ v.cell? ⟨w.heap.size, 2, none⟩ = some (.bool s.k) ∧ v.cell? ⟨w.heap.size + 1, 0, none⟩ = some (.int .i64 o.lo) ∧ v.cell? ⟨w.heap.size + 1, 1, none⟩ = some (.int .i64 o.hi) ∧ v.cell? ⟨w.heap.size + 1, 2, none⟩ = some (.bool o.k)) (by kernel_rfl) ?_ (fun hHeld => ?_)
    · exact HS0.out
    refine wpAnyH_take (i := 0) (v := .agg #[.int .i64 (s).lo, .int .i64 (s).hi, .bool (s).k]) (at_list rfl) (by kernel_rfl) (by kernel_rfl) (by kernel_rfl) (fun _ _ _ h => h) (Or.inl ⟨by rfl, ?_⟩) (by assumption) ?_
    · intro v hSv
      obtain ⟨q0, q1, q2, q3, q4, q5⟩ := hSv
      go_simp
    try simp only [Act.put, List.setIfInBounds_toArray, List.set_cons_zero, List.set_cons_succ]
    refine wpAnyH_take (i := 2) (v := .agg #[.int .i64 (o).lo, .int .i64 (o).hi, .bool (o).k]) (at_list rfl) (by kernel_rfl) (by kernel_rfl) (by kernel_rfl) (fun _ _ _ h => h) (Or.inl ⟨by rfl, ?_⟩) (by assumption) ?_
    · intro v hSv
      obtain ⟨q0, q1, q2, q3, q4, q5⟩ := hSv
      go_simp
    try simp only [Act.put, List.setIfInBounds_toArray, List.set_cons_zero, List.set_cons_succ]
    refine wpAnyH_ready (rs := [1, 4, 5]) (by kernel_rfl) (by simp) ?_
    refine AllReadyH.cons (at_list rfl) (fun K hK => ?_) ?_
    · go_simp
      refine (OW0.out _).mono ?_
      rintro e w1 ⟨rfl, hb1⟩
      have Q1 := Lib.hid (bstep (bdrew (Below.refl _ _)) hb1)
      go_wp2_with fail
      refine hK.out _ _ ?_ (fun hHeld => ?_)
      · exact keep6 Q1.out HS0.out
      clear hK K
      try simp only [Act.put, List.setIfInBounds_toArray, List.set_cons_zero, List.set_cons_succ]
      refine wpAnyH_ready (rs := [3, 4, 5]) (by kernel_rfl) (by simp) ?_
      refine AllReadyH.cons (at_list rfl) (fun K hK => ?_) ?_
      · go_simp
        refine (OW1.out _).mono ?_
        rintro e w2 ⟨rfl, hb2⟩
        have Q2 := Lib.hid (bstep (Q1.out) hb2)
        go_wp2_with fail
        refine hK.out _ _ ?_ (fun hHeld => ?_)
        · exact keep6 Q2.out HS0.out
        clear hK K
        try simp only [Act.put, List.setIfInBounds_toArray, List.set_cons_zero, List.set_cons_succ]
        refine wpAnyH_ready (rs := [4, 5]) (by kernel_rfl) (by simp) ?_
        refine AllReadyH.cons (at_list rfl) (fun K hK => ?_) ?_
        · go_simp
          refine hK.out _ _ ?_ (fun hHeld => ?_)
          · exact keep6 (bstep (Q2.out) (bnew _ (.cells #[.int .i64 0, .int .i64 0, .bool false] 24))) HS0.out
          clear hK K
          try simp only [Act.put, List.setIfInBounds_toArray, List.set_cons_zero, List.set_cons_succ]
          refine wpAnyH_ready (rs := [5]) (by kernel_rfl) (by simp) ?_
          refine AllReadyH.cons (at_list rfl) (fun K hK => ?_) ?_
          · go_simp
            refine hK.out _ _ ?_ (fun hHeld => ?_)
            · exact keep6 (bstep (bstep (Q2.out) (bnew _ (.cells #[.int .i64 0, .int .i64 0, .bool false] 24))) (bnew _ (.cells #[.int .i64 0, .int .i64 0, .bool false] 24))) HS0.out
            clear hK K
            try simp only [Act.put, List.setIfInBounds_toArray, List.set_cons_zero, List.set_cons_succ]
            have LA := Lib.hid ((Holds.fresh w2 24 #[.int .i64 0, .int .i64 0, .bool false] (g := w2.heap.size) (by simp)).laid (.cells #[.int .i64 0, .int .i64 0, .bool false] 24))
            have LB := Lib.hid (Holds.fresh (w2.alloc (.cells #[.int .i64 0, .int .i64 0, .bool false] 24)) 24 #[.int .i64 0, .int .i64 0, .bool false] (g := w2.heap.size + 1) (by simp))
            have QQ := Lib.hid (bstep (bstep (Q2.out) (bnew _ (.cells #[.int .i64 0, .int .i64 0, .bool false] 24))) (bnew _ (.cells #[.int .i64 0, .int .i64 0, .bool false] 24)))
            have sz1 := (Q1.out).size
            have sz2 := (Q2.out).size
            have sz3 := hb2.size
            try simp at sz3
            have leA : W0.heap.size ≤ w2.heap.size := by omega
            have leB : W0.heap.size ≤ w2.heap.size + 1 := by omega
            have neA : ¬ (w2.heap.size = w2.heap.size + 1) := by first | omega | (have := hb1.size; simp at this; omega)
            have neB : ¬ (w2.heap.size + 1 = w2.heap.size) := fun h => neA h.symm
            clear sz1 sz2 sz3
            generalize ((w2.alloc (.cells #[.int .i64 0, .int .i64 0, .bool false] 24)).alloc (.cells #[.int .i64 0, .int .i64 0, .bool false] 24)) = V at *
            have la0 := (LA.out).reads (i := 0) rfl; have la1 := (LA.out).reads (i := 1) rfl; have la2 := (LA.out).reads (i := 2) rfl
            have lb0 := (LB.out).reads (i := 0) rfl; have lb1 := (LB.out).reads (i := 1) rfl; have lb2 := (LB.out).reads (i := 2) rfl
            have la3 := (LA.out).open_ 0; have la4 := (LA.out).open_ 1; have la5 := (LA.out).open_ 2
            have lb3 := (LB.out).open_ 0; have lb4 := (LB.out).open_ 1; have lb5 := (LB.out).open_ 2
            refine wpAnyH_ready (rs := [6]) (by kernel_rfl) (by simp) ?_
            refine AllReadyH.cons (at_list rfl) (fun K hK => ?_) AllReadyH.nil
            go_simp
            refine hK.out _ _ ?_ (fun hHeld => ?_)
            · exact keep6 (bput3 QQ.out leA _ _ _) HS0.out
            clear hK K
            try simp only [Act.put, List.setIfInBounds_toArray, List.set_cons_zero, List.set_cons_succ]
            refine wpAnyH_ready (rs := [7]) (by kernel_rfl) (by simp) ?_
            refine AllReadyH.cons (at_list rfl) (fun K hK => ?_) AllReadyH.nil
            go_simp
            refine hK.out _ _ ?_ (fun hHeld => ?_)
            · exact keep6 (bput3 (bput3 QQ.out leA _ _ _) leB _ _ _) HS0.out
            clear hK K
            try simp only [Act.put, List.setIfInBounds_toArray, List.set_cons_zero, List.set_cons_succ]
            refine wpAnyH_done (by kernel_rfl) ?_ _
            refine NoPanic.normal ?_
            go_wp2_with fail
            go_meet
            exact ⟨_, _, rfl, rfl, ((LA.out).put3 _ _ _).aside3 neB _ _ _, ((LB.out).aside3 neA _ _ _).put3 _ _ _, bput3 (bput3 QQ.out leA _ _ _) leB _ _ _⟩
          exact AllReadyH.nil
        refine AllReadyH.cons (at_list rfl) (fun K hK => ?_) ?_
        · go_simp
          refine hK.out _ _ ?_ (fun hHeld => ?_)
          · exact keep6 (bstep (Q2.out) (bnew _ (.cells #[.int .i64 0, .int .i64 0, .bool false] 24))) HS0.out
          clear hK K
          try simp only [Act.put, List.setIfInBounds_toArray, List.set_cons_zero, List.set_cons_succ]
          refine wpAnyH_ready (rs := [4]) (by kernel_rfl) (by simp) ?_
          refine AllReadyH.cons (at_list rfl) (fun K hK => ?_) ?_
          · go_simp
            refine hK.out _ _ ?_ (fun hHeld => ?_)
            · exact keep6 (bstep (bstep (Q2.out) (bnew _ (.cells #[.int .i64 0, .int .i64 0, .bool false] 24))) (bnew _ (.cells #[.int .i64 0, .int .i64 0, .bool false] 24))) HS0.out
            clear hK K
            try simp only [Act.put, List.setIfInBounds_toArray, List.set_cons_zero, List.set_cons_succ]
            have LA := Lib.hid (Holds.fresh (w2.alloc (.cells #[.int .i64 0, .int .i64 0, .bool false] 24)) 24 #[.int .i64 0, .int .i64 0, .bool false] (g := w2.heap.size + 1) (by simp))
            have LB := Lib.hid ((Holds.fresh w2 24 #[.int .i64 0, .int .i64 0, .bool false] (g := w2.heap.size) (by simp)).laid (.cells #[.int .i64 0, .int .i64 0, .bool false] 24))
            have QQ := Lib.hid (bstep (bstep (Q2.out) (bnew _ (.cells #[.int .i64 0, .int .i64 0, .bool false] 24))) (bnew _ (.cells #[.int .i64 0, .int .i64 0, .bool false] 24)))
            have sz1 := (Q1.out).size
            have sz2 := (Q2.out).size
            have sz3 := hb2.size
            try simp at sz3
            have leA : W0.heap.size ≤ w2.heap.size + 1 := by omega
            have leB : W0.heap.size ≤ w2.heap.size := by omega
            have neA : ¬ (w2.heap.size + 1 = w2.heap.size) := by first | omega | (have := hb1.size; simp at this; omega)
            have neB : ¬ (w2.heap.size = w2.heap.size + 1) := fun h => neA h.symm
            clear sz1 sz2 sz3
            generalize ((w2.alloc (.cells #[.int .i64 0, .int .i64 0, .bool false] 24)).alloc (.cells #[.int .i64 0, .int .i64 0, .bool false] 24)) = V at *
            have la0 := (LA.out).reads (i := 0) rfl; have la1 := (LA.out).reads (i := 1) rfl; have la2 := (LA.out).reads (i := 2) rfl
            have lb0 := (LB.out).reads (i := 0) rfl; have lb1 := (LB.out).reads (i := 1) rfl; have lb2 := (LB.out).reads (i := 2) rfl
            have la3 := (LA.out).open_ 0; have la4 := (LA.out).open_ 1; have la5 := (LA.out).open_ 2
            have lb3 := (LB.out).open_ 0; have lb4 := (LB.out).open_ 1; have lb5 := (LB.out).open_ 2
            refine wpAnyH_ready (rs := [6]) (by kernel_rfl) (by simp) ?_
            refine AllReadyH.cons (at_list rfl) (fun K hK => ?_) AllReadyH.nil
            go_simp
            refine hK.out _ _ ?_ (fun hHeld => ?_)
            · exact keep6 (bput3 QQ.out leA _ _ _) HS0.out
            clear hK K
            try simp only [Act.put, List.setIfInBounds_toArray, List.set_cons_zero, List.set_cons_succ]
            refine wpAnyH_ready (rs := [7]) (by kernel_rfl) (by simp) ?_
            refine AllReadyH.cons (at_list rfl) (fun K hK => ?_) AllReadyH.nil
            go_simp
            refine hK.out _ _ ?_ (fun hHeld => ?_)
            · exact keep6 (bput3 (bput3 QQ.out leA _ _ _) leB _ _ _) HS0.out
            clear hK K
            try simp only [Act.put, List.setIfInBounds_toArray, List.set_cons_zero, List.set_cons_succ]
            refine wpAnyH_done (by kernel_rfl) ?_ _
            refine NoPanic.normal ?_
            go_wp2_with fail
            go_meet
            exact ⟨_, _, rfl, rfl, ((LA.out).put3 _ _ _).aside3 neB _ _ _, ((LB.out).aside3 neA _ _ _).put3 _ _ _, bput3 (bput3 QQ.out leA _ _ _) leB _ _ _⟩
          exact AllReadyH.nil
        exact AllReadyH.nil
      refine AllReadyH.cons (at_list rfl) (fun K hK => ?_) ?_
      · go_simp
        refine hK.out _ _ ?_ (fun hHeld => ?_)
        · exact keep6 (bstep (Q1.out) (bnew _ (.cells #[.int .i64 0, .int .i64 0, .bool false] 24))) HS0.out
        clear hK K
        try simp only [Act.put, List.setIfInBounds_toArray, List.set_cons_zero, List.set_cons_succ]
        refine wpAnyH_ready (rs := [3, 5]) (by kernel_rfl) (by simp) ?_
        refine AllReadyH.cons (at_list rfl) (fun K hK => ?_) ?_
        · go_simp
          refine (OW1.out _).mono ?_
          rintro e w2 ⟨rfl, hb2⟩
          have Q2 := Lib.hid (bstep (bstep (Q1.out) (bnew _ (.cells #[.int .i64 0, .int .i64 0, .bool false] 24))) hb2)
          have KA2 := Lib.hid ((Holds.fresh w1 24 #[.int .i64 0, .int .i64 0, .bool false] (g := w1.heap.size) (by simp)).keptB hb2)
          go_wp2_with fail
          refine hK.out _ _ ?_ (fun hHeld => ?_)
          · exact keep6 Q2.out HS0.out
          clear hK K
          try simp only [Act.put, List.setIfInBounds_toArray, List.set_cons_zero, List.set_cons_succ]
          refine wpAnyH_ready (rs := [5]) (by kernel_rfl) (by simp) ?_
          refine AllReadyH.cons (at_list rfl) (fun K hK => ?_) ?_
          · go_simp
            refine hK.out _ _ ?_ (fun hHeld => ?_)
            · exact keep6 (bstep (Q2.out) (bnew _ (.cells #[.int .i64 0, .int .i64 0, .bool false] 24))) HS0.out
            clear hK K
            try simp only [Act.put, List.setIfInBounds_toArray, List.set_cons_zero, List.set_cons_succ]
            have LA := Lib.hid ((KA2.out).laid (.cells #[.int .i64 0, .int .i64 0, .bool false] 24))
            have LB := Lib.hid (Holds.fresh w2 24 #[.int .i64 0, .int .i64 0, .bool false] (g := w2.heap.size) (by simp))
            have QQ := Lib.hid (bstep (Q2.out) (bnew _ (.cells #[.int .i64 0, .int .i64 0, .bool false] 24)))
            have sz1 := (Q1.out).size
            have sz2 := (Q2.out).size
            have sz3 := hb2.size
            try simp at sz3
            have leA : W0.heap.size ≤ w1.heap.size := by omega
            have leB : W0.heap.size ≤ w2.heap.size := by omega
            have neA : ¬ (w1.heap.size = w2.heap.size) := by first | omega | (have := hb1.size; simp at this; omega)
            have neB : ¬ (w2.heap.size = w1.heap.size) := fun h => neA h.symm
            clear sz1 sz2 sz3
            generalize (w2.alloc (.cells #[.int .i64 0, .int .i64 0, .bool false] 24)) = V at *
            have la0 := (LA.out).reads (i := 0) rfl; have la1 := (LA.out).reads (i := 1) rfl; have la2 := (LA.out).reads (i := 2) rfl
            have lb0 := (LB.out).reads (i := 0) rfl; have lb1 := (LB.out).reads (i := 1) rfl; have lb2 := (LB.out).reads (i := 2) rfl
            have la3 := (LA.out).open_ 0; have la4 := (LA.out).open_ 1; have la5 := (LA.out).open_ 2
            have lb3 := (LB.out).open_ 0; have lb4 := (LB.out).open_ 1; have lb5 := (LB.out).open_ 2
            refine wpAnyH_ready (rs := [6]) (by kernel_rfl) (by simp) ?_
            refine AllReadyH.cons (at_list rfl) (fun K hK => ?_) AllReadyH.nil
            go_simp
            refine hK.out _ _ ?_ (fun hHeld => ?_)
            · exact keep6 (bput3 QQ.out leA _ _ _) HS0.out
            clear hK K
            try simp only [Act.put, List.setIfInBounds_toArray, List.set_cons_zero, List.set_cons_succ]
            refine wpAnyH_ready (rs := [7]) (by kernel_rfl) (by simp) ?_
            refine AllReadyH.cons (at_list rfl) (fun K hK => ?_) AllReadyH.nil
            go_simp
            refine hK.out _ _ ?_ (fun hHeld => ?_)
            · exact keep6 (bput3 (bput3 QQ.out leA _ _ _) leB _ _ _) HS0.out
            clear hK K
            try simp only [Act.put, List.setIfInBounds_toArray, List.set_cons_zero, List.set_cons_succ]
            refine wpAnyH_done (by kernel_rfl) ?_ _
            refine NoPanic.normal ?_
            go_wp2_with fail
            go_meet
            exact ⟨_, _, rfl, rfl, ((LA.out).put3 _ _ _).aside3 neB _ _ _, ((LB.out).aside3 neA _ _ _).put3 _ _ _, bput3 (bput3 QQ.out leA _ _ _) leB _ _ _⟩
          exact AllReadyH.nil
        refine AllReadyH.cons (at_list rfl) (fun K hK => ?_) ?_
        · go_simp
          refine hK.out _ _ ?_ (fun hHeld => ?_)
          · exact keep6 (bstep (bstep (Q1.out) (bnew _ (.cells #[.int .i64 0, .int .i64 0, .bool false] 24))) (bnew _ (.cells #[.int .i64 0, .int .i64 0, .bool false] 24))) HS0.out
          clear hK K
          try simp only [Act.put, List.setIfInBounds_toArray, List.set_cons_zero, List.set_cons_succ]
          refine wpAnyH_ready (rs := [3]) (by kernel_rfl) (by simp) ?_
          refine AllReadyH.cons (at_list rfl) (fun K hK => ?_) ?_
          · go_simp
            refine (OW1.out _).mono ?_
            rintro e w2 ⟨rfl, hb2⟩
            have Q2 := Lib.hid (bstep (bstep (bstep (Q1.out) (bnew _ (.cells #[.int .i64 0, .int .i64 0, .bool false] 24))) (bnew _ (.cells #[.int .i64 0, .int .i64 0, .bool false] 24))) hb2)
            have KA2 := Lib.hid (((Holds.fresh w1 24 #[.int .i64 0, .int .i64 0, .bool false] (g := w1.heap.size) (by simp)).laid (.cells #[.int .i64 0, .int .i64 0, .bool false] 24)).keptB hb2)
            have KB2 := Lib.hid ((Holds.fresh (w1.alloc (.cells #[.int .i64 0, .int .i64 0, .bool false] 24)) 24 #[.int .i64 0, .int .i64 0, .bool false] (g := w1.heap.size + 1) (by simp)).keptB hb2)
            go_wp2_with fail
            refine hK.out _ _ ?_ (fun hHeld => ?_)
            · exact keep6 Q2.out HS0.out
            clear hK K
            try simp only [Act.put, List.setIfInBounds_toArray, List.set_cons_zero, List.set_cons_succ]
            have LA := Lib.hid (KA2.out)
            have LB := Lib.hid (KB2.out)
            have QQ := Lib.hid (Q2.out)
            have sz1 := (Q1.out).size
            have sz2 := (Q2.out).size
            have sz3 := hb2.size
            try simp at sz3
            have leA : W0.heap.size ≤ w1.heap.size := by omega
            have leB : W0.heap.size ≤ w1.heap.size + 1 := by omega
            have neA : ¬ (w1.heap.size = w1.heap.size + 1) := by first | omega | (have := hb1.size; simp at this; omega)
            have neB : ¬ (w1.heap.size + 1 = w1.heap.size) := fun h => neA h.symm
            clear sz1 sz2 sz3
            have la0 := (LA.out).reads (i := 0) rfl; have la1 := (LA.out).reads (i := 1) rfl; have la2 := (LA.out).reads (i := 2) rfl
            have lb0 := (LB.out).reads (i := 0) rfl; have lb1 := (LB.out).reads (i := 1) rfl; have lb2 := (LB.out).reads (i := 2) rfl
            have la3 := (LA.out).open_ 0; have la4 := (LA.out).open_ 1; have la5 := (LA.out).open_ 2
            have lb3 := (LB.out).open_ 0; have lb4 := (LB.out).open_ 1; have lb5 := (LB.out).open_ 2
            refine wpAnyH_ready (rs := [6]) (by kernel_rfl) (by simp) ?_
            refine AllReadyH.cons (at_list rfl) (fun K hK => ?_) AllReadyH.nil
            go_simp
            refine hK.out _ _ ?_ (fun hHeld => ?_)
            · exact keep6 (bput3 QQ.out leA _ _ _) HS0.out
            clear hK K
            try simp only [Act.put, List.setIfInBounds_toArray, List.set_cons_zero, List.set_cons_succ]
            refine wpAnyH_ready (rs := [7]) (by kernel_rfl) (by simp) ?_
            refine AllReadyH.cons (at_list rfl) (fun K hK => ?_) AllReadyH.nil
            go_simp
            refine hK.out _ _ ?_ (fun hHeld => ?_)
            · exact keep6 (bput3 (bput3 QQ.out leA _ _ _) leB _ _ _) HS0.out
            clear hK K
            try simp only [Act.put, List.setIfInBounds_toArray, List.set_cons_zero, List.set_cons_succ]
            refine wpAnyH_done (by kernel_rfl) ?_ _
            refine NoPanic.normal ?_
            go_wp2_with fail
            go_meet
            exact ⟨_, _, rfl, rfl, ((LA.out).put3 _ _ _).aside3 neB _ _ _, ((LB.out).aside3 neA _ _ _).put3 _ _ _, bput3 (bput3 QQ.out leA _ _ _) leB _ _ _⟩
          exact AllReadyH.nil
        exact AllReadyH.nil
      refine AllReadyH.cons (at_list rfl) (fun K hK => ?_) ?_
      · go_simp
        refine hK.out _ _ ?_ (fun hHeld => ?_)
        · exact keep6 (bstep (Q1.out) (bnew _ (.cells #[.int .i64 0, .int .i64 0, .bool false] 24))) HS0.out
        clear hK K
        try simp only [Act.put, List.setIfInBounds_toArray, List.set_cons_zero, List.set_cons_succ]
        refine wpAnyH_ready (rs := [3, 4]) (by kernel_rfl) (by simp) ?_
        refine AllReadyH.cons (at_list rfl) (fun K hK => ?_) ?_
        · go_simp
          refine (OW1.out _).mono ?_
          rintro e w2 ⟨rfl, hb2⟩
          have Q2 := Lib.hid (bstep (bstep (Q1.out) (bnew _ (.cells #[.int .i64 0, .int .i64 0, .bool false] 24))) hb2)
          have KB2 := Lib.hid ((Holds.fresh w1 24 #[.int .i64 0, .int .i64 0, .bool false] (g := w1.heap.size) (by simp)).keptB hb2)
          go_wp2_with fail
          refine hK.out _ _ ?_ (fun hHeld => ?_)
          · exact keep6 Q2.out HS0.out
          clear hK K
          try simp only [Act.put, List.setIfInBounds_toArray, List.set_cons_zero, List.set_cons_succ]
          refine wpAnyH_ready (rs := [4]) (by kernel_rfl) (by simp) ?_
          refine AllReadyH.cons (at_list rfl) (fun K hK => ?_) ?_
          · go_simp
            refine hK.out _ _ ?_ (fun hHeld => ?_)
            · exact keep6 (bstep (Q2.out) (bnew _ (.cells #[.int .i64 0, .int .i64 0, .bool false] 24))) HS0.out
            clear hK K
            try simp only [Act.put, List.setIfInBounds_toArray, List.set_cons_zero, List.set_cons_succ]
            have LA := Lib.hid (Holds.fresh w2 24 #[.int .i64 0, .int .i64 0, .bool false] (g := w2.heap.size) (by simp))
            have LB := Lib.hid ((KB2.out).laid (.cells #[.int .i64 0, .int .i64 0, .bool false] 24))
            have QQ := Lib.hid (bstep (Q2.out) (bnew _ (.cells #[.int .i64 0, .int .i64 0, .bool false] 24)))
            have sz1 := (Q1.out).size
            have sz2 := (Q2.out).size
            have sz3 := hb2.size
            try simp at sz3
            have leA : W0.heap.size ≤ w2.heap.size := by omega
            have leB : W0.heap.size ≤ w1.heap.size := by omega
            have neA : ¬ (w2.heap.size = w1.heap.size) := by first | omega | (have := hb1.size; simp at this; omega)
            have neB : ¬ (w1.heap.size = w2.heap.size) := fun h => neA h.symm
            clear sz1 sz2 sz3
            generalize (w2.alloc (.cells #[.int .i64 0, .int .i64 0, .bool false] 24)) = V at *
            have la0 := (LA.out).reads (i := 0) rfl; have la1 := (LA.out).reads (i := 1) rfl; have la2 := (LA.out).reads (i := 2) rfl
            have lb0 := (LB.out).reads (i := 0) rfl; have lb1 := (LB.out).reads (i := 1) rfl; have lb2 := (LB.out).reads (i := 2) rfl
            have la3 := (LA.out).open_ 0; have la4 := (LA.out).open_ 1; have la5 := (LA.out).open_ 2
            have lb3 := (LB.out).open_ 0; have lb4 := (LB.out).open_ 1; have lb5 := (LB.out).open_ 2
            refine wpAnyH_ready (rs := [6]) (by kernel_rfl) (by simp) ?_
            refine AllReadyH.cons (at_list rfl) (fun K hK => ?_) AllReadyH.nil
            go_simp
            refine hK.out _ _ ?_ (fun hHeld => ?_)
            · exact keep6 (bput3 QQ.out leA _ _ _) HS0.out
            clear hK K
            try simp only [Act.put, List.setIfInBounds_toArray, List.set_cons_zero, List.set_cons_succ]
            refine wpAnyH_ready (rs := [7]) (by kernel_rfl) (by simp) ?_
            refine AllReadyH.cons (at_list rfl) (fun K hK => ?_) AllReadyH.nil
            go_simp
            refine hK.out _ _ ?_ (fun hHeld => ?_)
            · exact keep6 (bput3 (bput3 QQ.out leA _ _ _) leB _ _ _) HS0.out
            clear hK K
            try simp only [Act.put, List.setIfInBounds_toArray, List.set_cons_zero, List.set_cons_succ]
            refine wpAnyH_done (by kernel_rfl) ?_ _
            refine NoPanic.normal ?_
            go_wp2_with fail
            go_meet
            exact ⟨_, _, rfl, rfl, ((LA.out).put3 _ _ _).aside3 neB _ _ _, ((LB.out).aside3 neA _ _ _).put3 _ _ _, bput3 (bput3 QQ.out leA _ _ _) leB _ _ _⟩
          exact AllReadyH.nil
        refine AllReadyH.cons (at_list rfl) (fun K hK => ?_) ?_
        · go_simp
          refine hK.out _ _ ?_ (fun hHeld => ?_)
          · exact keep6 (bstep (bstep (Q1.out) (bnew _ (.cells #[.int .i64 0, .int .i64 0, .bool false] 24))) (bnew _ (.cells #[.int .i64 0, .int .i64 0, .bool false] 24))) HS0.out
          clear hK K
          try simp only [Act.put, List.setIfInBounds_toArray, List.set_cons_zero, List.set_cons_succ]
          refine wpAnyH_ready (rs := [3]) (by kernel_rfl) (by simp) ?_
          refine AllReadyH.cons (at_list rfl) (fun K hK => ?_) ?_
          · go_simp
            refine (OW1.out _).mono ?_
            rintro e w2 ⟨rfl, hb2⟩
            have Q2 := Lib.hid (bstep (bstep (bstep (Q1.out) (bnew _ (.cells #[.int .i64 0, .int .i64 0, .bool false] 24))) (bnew _ (.cells #[.int .i64 0, .int .i64 0, .bool false] 24))) hb2)
            have KB2 := Lib.hid (((Holds.fresh w1 24 #[.int .i64 0, .int .i64 0, .bool false] (g := w1.heap.size) (by simp)).laid (.cells #[.int .i64 0, .int .i64 0, .bool false] 24)).keptB hb2)
            have KA2 := Lib.hid ((Holds.fresh (w1.alloc (.cells #[.int .i64 0, .int .i64 0, .bool false] 24)) 24 #[.int .i64 0, .int .i64 0, .bool false] (g := w1.heap.size + 1) (by simp)).keptB hb2)
            go_wp2_with fail
            refine hK.out _ _ ?_ (fun hHeld => ?_)
            · exact keep6 Q2.out HS0.out
            clear hK K
            try simp only [Act.put, List.setIfInBounds_toArray, List.set_cons_zero, List.set_cons_succ]
            have LA := Lib.hid (KA2.out)
            have LB := Lib.hid (KB2.out)
            have QQ := Lib.hid (Q2.out)
            have sz1 := (Q1.out).size
            have sz2 := (Q2.out).size
            have sz3 := hb2.size
            try simp at sz3
            have leA : W0.heap.size ≤ w1.heap.size + 1 := by omega
            have leB : W0.heap.size ≤ w1.heap.size := by omega
            have neA : ¬ (w1.heap.size + 1 = w1.heap.size) := by first | omega | (have := hb1.size; simp at this; omega)
            have neB : ¬ (w1.heap.size = w1.heap.size + 1) := fun h => neA h.symm
            clear sz1 sz2 sz3
            have la0 := (LA.out).reads (i := 0) rfl; have la1 := (LA.out).reads (i := 1) rfl; have la2 := (LA.out).reads (i := 2) rfl
            have lb0 := (LB.out).reads (i := 0) rfl; have lb1 := (LB.out).reads (i := 1) rfl; have lb2 := (LB.out).reads (i := 2) rfl
            have la3 := (LA.out).open_ 0; have la4 := (LA.out).open_ 1; have la5 := (LA.out).open_ 2
            have lb3 := (LB.out).open_ 0; have lb4 := (LB.out).open_ 1; have lb5 := (LB.out).open_ 2
            refine wpAnyH_ready (rs := [6]) (by kernel_rfl) (by simp) ?_
            refine AllReadyH.cons (at_list rfl) (fun K hK => ?_) AllReadyH.nil
            go_simp
            refine hK.out _ _ ?_ (fun hHeld => ?_)
            · exact keep6 (bput3 QQ.out leA _ _ _) HS0.out
            clear hK K
            try simp only [Act.put, List.setIfInBounds_toArray, List.set_cons_zero, List.set_cons_succ]
            refine wpAnyH_ready (rs := [7]) (by kernel_rfl) (by simp) ?_
            refine AllReadyH.cons (at_list rfl) (fun K hK => ?_) AllReadyH.nil
            go_simp
            refine hK.out _ _ ?_ (fun hHeld => ?_)
            · exact keep6 (bput3 (bput3 QQ.out leA _ _ _) leB _ _ _) HS0.out
            clear hK K
            try simp only [Act.put, List.setIfInBounds_toArray, List.set_cons_zero, List.set_cons_succ]
            refine wpAnyH_done (by kernel_rfl) ?_ _
            refine NoPanic.normal ?_
            go_wp2_with fail
            go_meet
            exact ⟨_, _, rfl, rfl, ((LA.out).put3 _ _ _).aside3 neB _ _ _, ((LB.out).aside3 neA _ _ _).put3 _ _ _, bput3 (bput3 QQ.out leA _ _ _) leB _ _ _⟩
          exact AllReadyH.nil
        exact AllReadyH.nil
      exact AllReadyH.nil
    refine AllReadyH.cons (at_list rfl) (fun K hK => ?_) ?_
    · go_simp
      refine hK.out _ _ ?_ (fun hHeld => ?_)
      · exact keep6 (bdrew (bnew W0 (.cells #[.int .i64 0, .int .i64 0, .bool false] 24))) HS0.out
      clear hK K
      try simp only [Act.put, List.setIfInBounds_toArray, List.set_cons_zero, List.set_cons_succ]
      refine wpAnyH_ready (rs := [1, 5]) (by kernel_rfl) (by simp) ?_
      refine AllReadyH.cons (at_list rfl) (fun K hK => ?_) ?_
      · go_simp
        refine (OW0.out _).mono ?_
        rintro e w1 ⟨rfl, hb1⟩
        have Q1 := Lib.hid (bstep (bdrew (bnew W0 (.cells #[.int .i64 0, .int .i64 0, .bool false] 24))) hb1)
        have KA1 := Lib.hid (((Holds.fresh W0 24 #[.int .i64 0, .int .i64 0, .bool false] (g := W0.heap.size) (by simp)).drew).keptB hb1)
        go_wp2_with fail
        refine hK.out _ _ ?_ (fun hHeld => ?_)
        · exact keep6 Q1.out HS0.out
        clear hK K
        try simp only [Act.put, List.setIfInBounds_toArray, List.set_cons_zero, List.set_cons_succ]
        refine wpAnyH_ready (rs := [3, 5]) (by kernel_rfl) (by simp) ?_
        refine AllReadyH.cons (at_list rfl) (fun K hK => ?_) ?_
        · go_simp
          refine (OW1.out _).mono ?_
          rintro e w2 ⟨rfl, hb2⟩
          have Q2 := Lib.hid (bstep (Q1.out) hb2)
          have KA2 := Lib.hid ((KA1.out).keptB hb2)
          go_wp2_with fail
          refine hK.out _ _ ?_ (fun hHeld => ?_)
          · exact keep6 Q2.out HS0.out
          clear hK K
          try simp only [Act.put, List.setIfInBounds_toArray, List.set_cons_zero, List.set_cons_succ]
          refine wpAnyH_ready (rs := [5]) (by kernel_rfl) (by simp) ?_
          refine AllReadyH.cons (at_list rfl) (fun K hK => ?_) ?_
          · go_simp
            refine hK.out _ _ ?_ (fun hHeld => ?_)
            · exact keep6 (bstep (Q2.out) (bnew _ (.cells #[.int .i64 0, .int .i64 0, .bool false] 24))) HS0.out
            clear hK K
            try simp only [Act.put, List.setIfInBounds_toArray, List.set_cons_zero, List.set_cons_succ]
            have LA := Lib.hid ((KA2.out).laid (.cells #[.int .i64 0, .int .i64 0, .bool false] 24))
            have LB := Lib.hid (Holds.fresh w2 24 #[.int .i64 0, .int .i64 0, .bool false] (g := w2.heap.size) (by simp))
            have QQ := Lib.hid (bstep (Q2.out) (bnew _ (.cells #[.int .i64 0, .int .i64 0, .bool false] 24)))
            have sz1 := (Q1.out).size
            have sz2 := (Q2.out).size
            have sz3 := hb2.size
            try simp at sz3
            have leA : W0.heap.size ≤ W0.heap.size := by omega
            have leB : W0.heap.size ≤ w2.heap.size := by omega
            have neA : ¬ (W0.heap.size = w2.heap.size) := by first | omega | (have := hb1.size; simp at this; omega)
            have neB : ¬ (w2.heap.size = W0.heap.size) := fun h => neA h.symm
            clear sz1 sz2 sz3
            generalize (w2.alloc (.cells #[.int .i64 0, .int .i64 0, .bool false] 24)) = V at *
            have la0 := (LA.out).reads (i := 0) rfl; have la1 := (LA.out).reads (i := 1) rfl; have la2 := (LA.out).reads (i := 2) rfl
            have lb0 := (LB.out).reads (i := 0) rfl; have lb1 := (LB.out).reads (i := 1) rfl; have lb2 := (LB.out).reads (i := 2) rfl
            have la3 := (LA.out).open_ 0; have la4 := (LA.out).open_ 1; have la5 := (LA.out).open_ 2
            have lb3 := (LB.out).open_ 0; have lb4 := (LB.out).open_ 1; have lb5 := (LB.out).open_ 2
            refine wpAnyH_ready (rs := [6]) (by kernel_rfl) (by simp) ?_
            refine AllReadyH.cons (at_list rfl) (fun K hK => ?_) AllReadyH.nil
            go_simp
            refine hK.out _ _ ?_ (fun hHeld => ?_)
            · exact keep6 (bput3 QQ.out leA _ _ _) HS0.out
            clear hK K
            try simp only [Act.put, List.setIfInBounds_toArray, List.set_cons_zero, List.set_cons_succ]
            refine wpAnyH_ready (rs := [7]) (by kernel_rfl) (by simp) ?_
            refine AllReadyH.cons (at_list rfl) (fun K hK => ?_) AllReadyH.nil
            go_simp
            refine hK.out _ _ ?_ (fun hHeld => ?_)
            · exact keep6 (bput3 (bput3 QQ.out leA _ _ _) leB _ _ _) HS0.out
            clear hK K
            try simp only [Act.put, List.setIfInBounds_toArray, List.set_cons_zero, List.set_cons_succ]
            refine wpAnyH_done (by kernel_rfl) ?_ _
            refine NoPanic.normal ?_
            go_wp2_with fail
            go_meet
            exact ⟨_, _, rfl, rfl, ((LA.out).put3 _ _ _).aside3 neB _ _ _, ((LB.out).aside3 neA _ _ _).put3 _ _ _, bput3 (bput3 QQ.out leA _ _ _) leB _ _ _⟩
          exact AllReadyH.nil
        refine AllReadyH.cons (at_list rfl) (fun K hK => ?_) ?_
        · go_simp
          refine hK.out _ _ ?_ (fun hHeld => ?_)
          · exact keep6 (bstep (Q1.out) (bnew _ (.cells #[.int .i64 0, .int .i64 0, .bool false] 24))) HS0.out
          clear hK K
          try simp only [Act.put, List.setIfInBounds_toArray, List.set_cons_zero, List.set_cons_succ]
          refine wpAnyH_ready (rs := [3]) (by kernel_rfl) (by simp) ?_
          refine AllReadyH.cons (at_list rfl) (fun K hK => ?_) ?_
          · go_simp
            refine (OW1.out _).mono ?_
            rintro e w2 ⟨rfl, hb2⟩
            have Q2 := Lib.hid (bstep (bstep (Q1.out) (bnew _ (.cells #[.int .i64 0, .int .i64 0, .bool false] 24))) hb2)
            have KA2 := Lib.hid (((KA1.out).laid (.cells #[.int .i64 0, .int .i64 0, .bool false] 24)).keptB hb2)
            have KB2 := Lib.hid ((Holds.fresh w1 24 #[.int .i64 0, .int .i64 0, .bool false] (g := w1.heap.size) (by simp)).keptB hb2)
            go_wp2_with fail
            refine hK.out _ _ ?_ (fun hHeld => ?_)
            · exact keep6 Q2.out HS0.out
            clear hK K
            try simp only [Act.put, List.setIfInBounds_toArray, List.set_cons_zero, List.set_cons_succ]
            have LA := Lib.hid (KA2.out)
            have LB := Lib.hid (KB2.out)
            have QQ := Lib.hid (Q2.out)
            have sz1 := (Q1.out).size
            have sz2 := (Q2.out).size
            have sz3 := hb2.size
            try simp at sz3
            have leA : W0.heap.size ≤ W0.heap.size := by omega
            have leB : W0.heap.size ≤ w1.heap.size := by omega
            have neA : ¬ (W0.heap.size = w1.heap.size) := by first | omega | (have := hb1.size; simp at this; omega)
            have neB : ¬ (w1.heap.size = W0.heap.size) := fun h => neA h.symm
            clear sz1 sz2 sz3
            have la0 := (LA.out).reads (i := 0) rfl; have la1 := (LA.out).reads (i := 1) rfl; have la2 := (LA.out).reads (i := 2) rfl
            have lb0 := (LB.out).reads (i := 0) rfl; have lb1 := (LB.out).reads (i := 1) rfl; have lb2 := (LB.out).reads (i := 2) rfl
            have la3 := (LA.out).open_ 0; have la4 := (LA.out).open_ 1; have la5 := (LA.out).open_ 2
            have lb3 := (LB.out).open_ 0; have lb4 := (LB.out).open_ 1; have lb5 := (LB.out).open_ 2
            refine wpAnyH_ready (rs := [6]) (by kernel_rfl) (by simp) ?_
            refine AllReadyH.cons (at_list rfl) (fun K hK => ?_) AllReadyH.nil
            go_simp
            refine hK.out _ _ ?_ (fun hHeld => ?_)
            · exact keep6 (bput3 QQ.out leA _ _ _) HS0.out
            clear hK K
            try simp only [Act.put, List.setIfInBounds_toArray, List.set_cons_zero, List.set_cons_succ]
            refine wpAnyH_ready (rs := [7]) (by kernel_rfl) (by simp) ?_
            refine AllReadyH.cons (at_list rfl) (fun K hK => ?_) AllReadyH.nil
            go_simp
            refine hK.out _ _ ?_ (fun hHeld => ?_)
            · exact keep6 (bput3 (bput3 QQ.out leA _ _ _) leB _ _ _) HS0.out
            clear hK K
            try simp only [Act.put, List.setIfInBounds_toArray, List.set_cons_zero, List.set_cons_succ]
            refine wpAnyH_done (by kernel_rfl) ?_ _
            refine NoPanic.normal ?_
            go_wp2_with fail
            go_meet
            exact ⟨_, _, rfl, rfl, ((LA.out).put3 _ _ _).aside3 neB _ _ _, ((LB.out).aside3 neA _ _ _).put3 _ _ _, bput3 (bput3 QQ.out leA _ _ _) leB _ _ _⟩
          exact AllReadyH.nil
        exact AllReadyH.nil
      refine AllReadyH.cons (at_list rfl) (fun K hK => ?_) ?_
      · go_simp
        refine hK.out _ _ ?_ (fun hHeld => ?_)
        · exact keep6 (bdrew (bstep (bnew W0 (.cells #[.int .i64 0, .int .i64 0, .bool false] 24)) (bnew _ (.cells #[.int .i64 0, .int .i64 0, .bool false] 24)))) HS0.out
        clear hK K
        try simp only [Act.put, List.setIfInBounds_toArray, List.set_cons_zero, List.set_cons_succ]
        refine wpAnyH_ready (rs := [1]) (by kernel_rfl) (by simp) ?_
        refine AllReadyH.cons (at_list rfl) (fun K hK => ?_) ?_
        · go_simp
          refine (OW0.out _).mono ?_
          rintro e w1 ⟨rfl, hb1⟩
          have Q1 := Lib.hid (bstep (bdrew (bstep (bnew W0 (.cells #[.int .i64 0, .int .i64 0, .bool false] 24)) (bnew _ (.cells #[.int .i64 0, .int .i64 0, .bool false] 24)))) hb1)
          have KA1 := Lib.hid (((((Holds.fresh W0 24 #[.int .i64 0, .int .i64 0, .bool false] (g := W0.heap.size) (by simp))).laid (.cells #[.int .i64 0, .int .i64 0, .bool false] 24)).drew).keptB hb1)
          have KB1 := Lib.hid (((Holds.fresh (W0.alloc (.cells #[.int .i64 0, .int .i64 0, .bool false] 24)) 24 #[.int .i64 0, .int .i64 0, .bool false] (g := W0.heap.size + 1) (by simp)).drew).keptB hb1)
          go_wp2_with fail
          refine hK.out _ _ ?_ (fun hHeld => ?_)
          · exact keep6 Q1.out HS0.out
          clear hK K
          try simp only [Act.put, List.setIfInBounds_toArray, List.set_cons_zero, List.set_cons_succ]
          refine wpAnyH_ready (rs := [3]) (by kernel_rfl) (by simp) ?_
          refine AllReadyH.cons (at_list rfl) (fun K hK => ?_) ?_
          · go_simp
            refine (OW1.out _).mono ?_
            rintro e w2 ⟨rfl, hb2⟩
            have Q2 := Lib.hid (bstep (Q1.out) hb2)
            have KA2 := Lib.hid ((KA1.out).keptB hb2)
            have KB2 := Lib.hid ((KB1.out).keptB hb2)
            go_wp2_with fail
            refine hK.out _ _ ?_ (fun hHeld => ?_)
            · exact keep6 Q2.out HS0.out
            clear hK K
            try simp only [Act.put, List.setIfInBounds_toArray, List.set_cons_zero, List.set_cons_succ]
            have LA := Lib.hid (KA2.out)
            have LB := Lib.hid (KB2.out)
            have QQ := Lib.hid (Q2.out)
            have sz1 := (Q1.out).size
            have sz2 := (Q2.out).size
            have sz3 := hb2.size
            try simp at sz3
            have leA : W0.heap.size ≤ W0.heap.size := by omega
            have leB : W0.heap.size ≤ W0.heap.size + 1 := by omega
            have neA : ¬ (W0.heap.size = W0.heap.size + 1) := by first | omega | (have := hb1.size; simp at this; omega)
            have neB : ¬ (W0.heap.size + 1 = W0.heap.size) := fun h => neA h.symm
            clear sz1 sz2 sz3
            have la0 := (LA.out).reads (i := 0) rfl; have la1 := (LA.out).reads (i := 1) rfl; have la2 := (LA.out).reads (i := 2) rfl
            have lb0 := (LB.out).reads (i := 0) rfl; have lb1 := (LB.out).reads (i := 1) rfl; have lb2 := (LB.out).reads (i := 2) rfl
            have la3 := (LA.out).open_ 0; have la4 := (LA.out).open_ 1; have la5 := (LA.out).open_ 2
            have lb3 := (LB.out).open_ 0; have lb4 := (LB.out).open_ 1; have lb5 := (LB.out).open_ 2
            refine wpAnyH_ready (rs := [6]) (by kernel_rfl) (by simp) ?_
            refine AllReadyH.cons (at_list rfl) (fun K hK => ?_) AllReadyH.nil
            go_simp
            refine hK.out _ _ ?_ (fun hHeld => ?_)
            · exact keep6 (bput3 QQ.out leA _ _ _) HS0.out
            clear hK K
            try simp only [Act.put, List.setIfInBounds_toArray, List.set_cons_zero, List.set_cons_succ]
            refine wpAnyH_ready (rs := [7]) (by kernel_rfl) (by simp) ?_
            refine AllReadyH.cons (at_list rfl) (fun K hK => ?_) AllReadyH.nil
            go_simp
            refine hK.out _ _ ?_ (fun hHeld => ?_)
            · exact keep6 (bput3 (bput3 QQ.out leA _ _ _) leB _ _ _) HS0.out
            clear hK K
            try simp only [Act.put, List.setIfInBounds_toArray, List.set_cons_zero, List.set_cons_succ]
            refine wpAnyH_done (by kernel_rfl) ?_ _
            refine NoPanic.normal ?_
            go_wp2_with fail
            go_meet
            exact ⟨_, _, rfl, rfl, ((LA.out).put3 _ _ _).aside3 neB _ _ _, ((LB.out).aside3 neA _ _ _).put3 _ _ _, bput3 (bput3 QQ.out leA _ _ _) leB _ _ _⟩
          exact AllReadyH.nil
        exact AllReadyH.nil
      exact AllReadyH.nil
    refine AllReadyH.cons (at_list rfl) (fun K hK => ?_) ?_
    · go_simp
      refine hK.out _ _ ?_ (fun hHeld => ?_)
      · exact keep6 (bdrew (bnew W0 (.cells #[.int .i64 0, .int .i64 0, .bool false] 24))) HS0.out
      clear hK K
      try simp only [Act.put, List.setIfInBounds_toArray, List.set_cons_zero, List.set_cons_succ]
      refine wpAnyH_ready (rs := [1, 4]) (by kernel_rfl) (by simp) ?_
      refine AllReadyH.cons (at_list rfl) (fun K hK => ?_) ?_
      · go_simp
        refine (OW0.out _).mono ?_
        rintro e w1 ⟨rfl, hb1⟩
        have Q1 := Lib.hid (bstep (bdrew (bnew W0 (.cells #[.int .i64 0, .int .i64 0, .bool false] 24))) hb1)
        have KB1 := Lib.hid (((Holds.fresh W0 24 #[.int .i64 0, .int .i64 0, .bool false] (g := W0.heap.size) (by simp)).drew).keptB hb1)
        go_wp2_with fail
        refine hK.out _ _ ?_ (fun hHeld => ?_)
        · exact keep6 Q1.out HS0.out
        clear hK K
        try simp only [Act.put, List.setIfInBounds_toArray, List.set_cons_zero, List.set_cons_succ]
        refine wpAnyH_ready (rs := [3, 4]) (by kernel_rfl) (by simp) ?_
        refine AllReadyH.cons (at_list rfl) (fun K hK => ?_) ?_
        · go_simp
          refine (OW1.out _).mono ?_
          rintro e w2 ⟨rfl, hb2⟩
          have Q2 := Lib.hid (bstep (Q1.out) hb2)
          have KB2 := Lib.hid ((KB1.out).keptB hb2)
          go_wp2_with fail
          refine hK.out _ _ ?_ (fun hHeld => ?_)
          · exact keep6 Q2.out HS0.out
          clear hK K
          try simp only [Act.put, List.setIfInBounds_toArray, List.set_cons_zero, List.set_cons_succ]
          refine wpAnyH_ready (rs := [4]) (by kernel_rfl) (by simp) ?_
          refine AllReadyH.cons (at_list rfl) (fun K hK => ?_) ?_
          · go_simp
            refine hK.out _ _ ?_ (fun hHeld => ?_)
            · exact keep6 (bstep (Q2.out) (bnew _ (.cells #[.int .i64 0, .int .i64 0, .bool false] 24))) HS0.out
            clear hK K
            try simp only [Act.put, List.setIfInBounds_toArray, List.set_cons_zero, List.set_cons_succ]
            have LA := Lib.hid (Holds.fresh w2 24 #[.int .i64 0, .int .i64 0, .bool false] (g := w2.heap.size) (by simp))
            have LB := Lib.hid ((KB2.out).laid (.cells #[.int .i64 0, .int .i64 0, .bool false] 24))
            have QQ := Lib.hid (bstep (Q2.out) (bnew _ (.cells #[.int .i64 0, .int .i64 0, .bool false] 24)))
            have sz1 := (Q1.out).size
            have sz2 := (Q2.out).size
            have sz3 := hb2.size
            try simp at sz3
            have leA : W0.heap.size ≤ w2.heap.size := by omega
            have leB : W0.heap.size ≤ W0.heap.size := by omega
            have neA : ¬ (w2.heap.size = W0.heap.size) := by first | omega | (have := hb1.size; simp at this; omega)
            have neB : ¬ (W0.heap.size = w2.heap.size) := fun h => neA h.symm
            clear sz1 sz2 sz3
            generalize (w2.alloc (.cells #[.int .i64 0, .int .i64 0, .bool false] 24)) = V at *
            have la0 := (LA.out).reads (i := 0) rfl; have la1 := (LA.out).reads (i := 1) rfl; have la2 := (LA.out).reads (i := 2) rfl
            have lb0 := (LB.out).reads (i := 0) rfl; have lb1 := (LB.out).reads (i := 1) rfl; have lb2 := (LB.out).reads (i := 2) rfl
            have la3 := (LA.out).open_ 0; have la4 := (LA.out).open_ 1; have la5 := (LA.out).open_ 2
            have lb3 := (LB.out).open_ 0; have lb4 := (LB.out).open_ 1; have lb5 := (LB.out).open_ 2
            refine wpAnyH_ready (rs := [6]) (by kernel_rfl) (by simp) ?_
            refine AllReadyH.cons (at_list rfl) (fun K hK => ?_) AllReadyH.nil
            go_simp
            refine hK.out _ _ ?_ (fun hHeld => ?_)
            · exact keep6 (bput3 QQ.out leA _ _ _) HS0.out
            clear hK K
            try simp only [Act.put, List.setIfInBounds_toArray, List.set_cons_zero, List.set_cons_succ]
            refine wpAnyH_ready (rs := [7]) (by kernel_rfl) (by simp) ?_
            refine AllReadyH.cons (at_list rfl) (fun K hK => ?_) AllReadyH.nil
            go_simp
            refine hK.out _ _ ?_ (fun hHeld => ?_)
            · exact keep6 (bput3 (bput3 QQ.out leA _ _ _) leB _ _ _) HS0.out
            clear hK K
            try simp only [Act.put, List.setIfInBounds_toArray, List.set_cons_zero, List.set_cons_succ]
            refine wpAnyH_done (by kernel_rfl) ?_ _
            refine NoPanic.normal ?_
            go_wp2_with fail
            go_meet
            exact ⟨_, _, rfl, rfl, ((LA.out).put3 _ _ _).aside3 neB _ _ _, ((LB.out).aside3 neA _ _ _).put3 _ _ _, bput3 (bput3 QQ.out leA _ _ _) leB _ _ _⟩
          exact AllReadyH.nil
        refine AllReadyH.cons (at_list rfl) (fun K hK => ?_) ?_
        · go_simp
          refine hK.out _ _ ?_ (fun hHeld => ?_)
          · exact keep6 (bstep (Q1.out) (bnew _ (.cells #[.int .i64 0, .int .i64 0, .bool false] 24))) HS0.out
          clear hK K
          try simp only [Act.put, List.setIfInBounds_toArray, List.set_cons_zero, List.set_cons_succ]
          refine wpAnyH_ready (rs := [3]) (by kernel_rfl) (by simp) ?_
          refine AllReadyH.cons (at_list rfl) (fun K hK => ?_) ?_
          · go_simp
            refine (OW1.out _).mono ?_
            rintro e w2 ⟨rfl, hb2⟩
            have Q2 := Lib.hid (bstep (bstep (Q1.out) (bnew _ (.cells #[.int .i64 0, .int .i64 0, .bool false] 24))) hb2)
            have KB2 := Lib.hid (((KB1.out).laid (.cells #[.int .i64 0, .int .i64 0, .bool false] 24)).keptB hb2)
            have KA2 := Lib.hid ((Holds.fresh w1 24 #[.int .i64 0, .int .i64 0, .bool false] (g := w1.heap.size) (by simp)).keptB hb2)
            go_wp2_with fail
            refine hK.out _ _ ?_ (fun hHeld => ?_)
            · exact keep6 Q2.out HS0.out
            clear hK K
            try simp only [Act.put, List.setIfInBounds_toArray, List.set_cons_zero, List.set_cons_succ]
            have LA := Lib.hid (KA2.out)
            have LB := Lib.hid (KB2.out)
            have QQ := Lib.hid (Q2.out)
            have sz1 := (Q1.out).size
            have sz2 := (Q2.out).size
            have sz3 := hb2.size
            try simp at sz3
            have leA : W0.heap.size ≤ w1.heap.size := by omega
            have leB : W0.heap.size ≤ W0.heap.size := by omega
            have neA : ¬ (w1.heap.size = W0.heap.size) := by first | omega | (have := hb1.size; simp at this; omega)
            have neB : ¬ (W0.heap.size = w1.heap.size) := fun h => neA h.symm
            clear sz1 sz2 sz3
            have la0 := (LA.out).reads (i := 0) rfl; have la1 := (LA.out).reads (i := 1) rfl; have la2 := (LA.out).reads (i := 2) rfl
            have lb0 := (LB.out).reads (i := 0) rfl; have lb1 := (LB.out).reads (i := 1) rfl; have lb2 := (LB.out).reads (i := 2) rfl
            have la3 := (LA.out).open_ 0; have la4 := (LA.out).open_ 1; have la5 := (LA.out).open_ 2
            have lb3 := (LB.out).open_ 0; have lb4 := (LB.out).open_ 1; have lb5 := (LB.out).open_ 2
            refine wpAnyH_ready (rs := [6]) (by kernel_rfl) (by simp) ?_
            refine AllReadyH.cons (at_list rfl) (fun K hK => ?_) AllReadyH.nil
            go_simp
            refine hK.out _ _ ?_ (fun hHeld => ?_)
            · exact keep6 (bput3 QQ.out leA _ _ _) HS0.out
            clear hK K
            try simp only [Act.put, List.setIfInBounds_toArray, List.set_cons_zero, List.set_cons_succ]
            refine wpAnyH_ready (rs := [7]) (by kernel_rfl) (by simp) ?_
            refine AllReadyH.cons (at_list rfl) (fun K hK => ?_) AllReadyH.nil
            go_simp
            refine hK.out _ _ ?_ (fun hHeld => ?_)
            · exact keep6 (bput3 (bput3 QQ.out leA _ _ _) leB _ _ _) HS0.out
            clear hK K
            try simp only [Act.put, List.setIfInBounds_toArray, List.set_cons_zero, List.set_cons_succ]
            refine wpAnyH_done (by kernel_rfl) ?_ _
            refine NoPanic.normal ?_
            go_wp2_with fail
            go_meet
            exact ⟨_, _, rfl, rfl, ((LA.out).put3 _ _ _).aside3 neB _ _ _, ((LB.out).aside3 neA _ _ _).put3 _ _ _, bput3 (bput3 QQ.out leA _ _ _) leB _ _ _⟩
          exact AllReadyH.nil
        exact AllReadyH.nil
      refine AllReadyH.cons (at_list rfl) (fun K hK => ?_) ?_
      · go_simp
        refine hK.out _ _ ?_ (fun hHeld => ?_)
        · exact keep6 (bdrew (bstep (bnew W0 (.cells #[.int .i64 0, .int .i64 0, .bool false] 24)) (bnew _ (.cells #[.int .i64 0, .int .i64 0, .bool false] 24)))) HS0.out
        clear hK K
        try simp only [Act.put, List.setIfInBounds_toArray, List.set_cons_zero, List.set_cons_succ]
        refine wpAnyH_ready (rs := [1]) (by kernel_rfl) (by simp) ?_
        refine AllReadyH.cons (at_list rfl) (fun K hK => ?_) ?_
        · go_simp
          refine (OW0.out _).mono ?_
          rintro e w1 ⟨rfl, hb1⟩
          have Q1 := Lib.hid (bstep (bdrew (bstep (bnew W0 (.cells #[.int .i64 0, .int .i64 0, .bool false] 24)) (bnew _ (.cells #[.int .i64 0, .int .i64 0, .bool false] 24)))) hb1)
          have KB1 := Lib.hid (((((Holds.fresh W0 24 #[.int .i64 0, .int .i64 0, .bool false] (g := W0.heap.size) (by simp))).laid (.cells #[.int .i64 0, .int .i64 0, .bool false] 24)).drew).keptB hb1)
          have KA1 := Lib.hid (((Holds.fresh (W0.alloc (.cells #[.int .i64 0, .int .i64 0, .bool false] 24)) 24 #[.int .i64 0, .int .i64 0, .bool false] (g := W0.heap.size + 1) (by simp)).drew).keptB hb1)
          go_wp2_with fail
          refine hK.out _ _ ?_ (fun hHeld => ?_)
          · exact keep6 Q1.out HS0.out
          clear hK K
          try simp only [Act.put, List.setIfInBounds_toArray, List.set_cons_zero, List.set_cons_succ]
          refine wpAnyH_ready (rs := [3]) (by kernel_rfl) (by simp) ?_
          refine AllReadyH.cons (at_list rfl) (fun K hK => ?_) ?_
          · go_simp
            refine (OW1.out _).mono ?_
            rintro e w2 ⟨rfl, hb2⟩
            have Q2 := Lib.hid (bstep (Q1.out) hb2)
            have KB2 := Lib.hid ((KB1.out).keptB hb2)
            have KA2 := Lib.hid ((KA1.out).keptB hb2)
            go_wp2_with fail
            refine hK.out _ _ ?_ (fun hHeld => ?_)
            · exact keep6 Q2.out HS0.out
            clear hK K
            try simp only [Act.put, List.setIfInBounds_toArray, List.set_cons_zero, List.set_cons_succ]
            have LA := Lib.hid (KA2.out)
            have LB := Lib.hid (KB2.out)
            have QQ := Lib.hid (Q2.out)
            have sz1 := (Q1.out).size
            have sz2 := (Q2.out).size
            have sz3 := hb2.size
            try simp at sz3
            have leA : W0.heap.size ≤ W0.heap.size + 1 := by omega
            have leB : W0.heap.size ≤ W0.heap.size := by omega
            have neA : ¬ (W0.heap.size + 1 = W0.heap.size) := by first | omega | (have := hb1.size; simp at this; omega)
            have neB : ¬ (W0.heap.size = W0.heap.size + 1) := fun h => neA h.symm
            clear sz1 sz2 sz3
            have la0 := (LA.out).reads (i := 0) rfl; have la1 := (LA.out).reads (i := 1) rfl; have la2 := (LA.out).reads (i := 2) rfl
            have lb0 := (LB.out).reads (i := 0) rfl; have lb1 := (LB.out).reads (i := 1) rfl; have lb2 := (LB.out).reads (i := 2) rfl
            have la3 := (LA.out).open_ 0; have la4 := (LA.out).open_ 1; have la5 := (LA.out).open_ 2
            have lb3 := (LB.out).open_ 0; have lb4 := (LB.out).open_ 1; have lb5 := (LB.out).open_ 2
            refine wpAnyH_ready (rs := [6]) (by kernel_rfl) (by simp) ?_
            refine AllReadyH.cons (at_list rfl) (fun K hK => ?_) AllReadyH.nil
            go_simp
            refine hK.out _ _ ?_ (fun hHeld => ?_)
            · exact keep6 (bput3 QQ.out leA _ _ _) HS0.out
            clear hK K
            try simp only [Act.put, List.setIfInBounds_toArray, List.set_cons_zero, List.set_cons_succ]
            refine wpAnyH_ready (rs := [7]) (by kernel_rfl) (by simp) ?_
            refine AllReadyH.cons (at_list rfl) (fun K hK => ?_) AllReadyH.nil
            go_simp
            refine hK.out _ _ ?_ (fun hHeld => ?_)
            · exact keep6 (bput3 (bput3 QQ.out leA _ _ _) leB _ _ _) HS0.out
            clear hK K
            try simp only [Act.put, List.setIfInBounds_toArray, List.set_cons_zero, List.set_cons_succ]
            refine wpAnyH_done (by kernel_rfl) ?_ _
            refine NoPanic.normal ?_
            go_wp2_with fail
            go_meet
            exact ⟨_, _, rfl, rfl, ((LA.out).put3 _ _ _).aside3 neB _ _ _, ((LB.out).aside3 neA _ _ _).put3 _ _ _, bput3 (bput3 QQ.out leA _ _ _) leB _ _ _⟩
          exact AllReadyH.nil
        exact AllReadyH.nil
      exact AllReadyH.nil
    exact AllReadyH.nil
  case rest =>
    obtain ⟨g7, g8, rfl, rfl, kA, kB, hb⟩ := hcut
    have K7 := Lib.hid kA
    have K8 := Lib.hid kB
    replace K0 := Lib.hid ((K0.out).keptB hb)
    replace K1 := Lib.hid ((K1.out).keptB hb)
    replace HB := Lib.hid (bstep HB.out hb)
    clear kA kB hb HS0
    clear x1_0 x1_1 x1_2 x2_0 x2_1 x2_2
    clear K0 K1
    go_upto_region 2 with fail
    have HB0 := Lib.hid (Below.refl wc.heap.size wc)
    go_cut [9] (fun p wx => p = .bool C ∧ Below wc.heap.size wc wx)
    case first =>
      clear HB
      have HB := HB0
      clear HB0
      cases A
      · obtain rfl : C = false := by rw [← HC.out]; rfl
        have x3_0 := (K7.out).reads (i := 0) rfl
        have x3_1 := (K7.out).reads (i := 1) rfl
        have x3_2 := (K7.out).reads (i := 2) rfl
        go_wp2_with fail
        refine (PA.out _).mono ?_
        rintro e w4 ⟨rfl, hw4⟩
        clear x3_0 x3_1 x3_2
        replace K7 := Lib.hid ((K7.out).keptB hw4)
        replace K8 := Lib.hid ((K8.out).keptB hw4)
        replace HB := Lib.hid (bstep HB.out hw4)
        clear hw4
        go_wp2_with fail
        go_meet
        exact ⟨rfl, HB.out⟩
      · obtain rfl : C = B := by rw [← HC.out]; rfl
        have x3_0 := (K7.out).reads (i := 0) rfl
        have x3_1 := (K7.out).reads (i := 1) rfl
        have x3_2 := (K7.out).reads (i := 2) rfl
        go_wp2_with fail
        refine (PA.out _).mono ?_
        rintro e w4 ⟨rfl, hw4⟩
        clear x3_0 x3_1 x3_2
        replace K7 := Lib.hid ((K7.out).keptB hw4)
        replace K8 := Lib.hid ((K8.out).keptB hw4)
        replace HB := Lib.hid (bstep HB.out hw4)
        clear hw4
        have x5_0 := (K8.out).reads (i := 0) rfl
        have x5_1 := (K8.out).reads (i := 1) rfl
        have x5_2 := (K8.out).reads (i := 2) rfl
        go_wp2_with fail
        refine (PB.out _).mono ?_
        rintro e w6 ⟨rfl, hw6⟩
        clear x5_0 x5_1 x5_2
        replace K7 := Lib.hid ((K7.out).keptB hw6)
        replace K8 := Lib.hid ((K8.out).keptB hw6)
        replace HB := Lib.hid (bstep HB.out hw6)
        clear hw6
        go_wp2_with fail
        go_meet
        exact ⟨rfl, HB.out⟩
    case rest =>
      obtain ⟨rfl, hb⟩ := hcut
      clear HB0
      replace K7 := Lib.hid ((K7.out).keptB hb)
      replace K8 := Lib.hid ((K8.out).keptB hb)
      replace HB := Lib.hid (bstep HB.out hb)
      clear hb
      go_upto_region 3 with fail
      have HB0 := Lib.hid (Below.refl wc.heap.size wc)
      go_cut [49] (fun p wx => p = .bool false ∧ Below wc.heap.size wc wx)
      case first =>
        clear HB
        have HB := HB0
        clear HB0
        cases A
        · cases B
          · obtain rfl : C = false := by rw [← HC.out]; rfl
            have x3_0 := (K7.out).reads (i := 0) rfl
            have x3_1 := (K7.out).reads (i := 1) rfl
            have x3_2 := (K7.out).reads (i := 2) rfl
            go_wp2_with fail
            refine (PA.out _).mono ?_
            rintro e w4 ⟨rfl, hw4⟩
            clear x3_0 x3_1 x3_2
            replace K7 := Lib.hid ((K7.out).keptB hw4)
            replace K8 := Lib.hid ((K8.out).keptB hw4)
            replace HB := Lib.hid (bstep HB.out hw4)
            clear hw4
            have x5_0 := (K8.out).reads (i := 0) rfl
            have x5_1 := (K8.out).reads (i := 1) rfl
            have x5_2 := (K8.out).reads (i := 2) rfl
            go_wp2_with fail
            refine (PB.out _).mono ?_
            rintro e w6 ⟨rfl, hw6⟩
            clear x5_0 x5_1 x5_2
            replace K7 := Lib.hid ((K7.out).keptB hw6)
            replace K8 := Lib.hid ((K8.out).keptB hw6)
            replace HB := Lib.hid (bstep HB.out hw6)
            clear hw6
            go_wp2_with fail
            go_meet
            exact ⟨rfl, HB.out⟩
          · obtain rfl : C = false := by rw [← HC.out]; rfl
            have e2 := F2.out (Or.inr rfl)
            rw [e2] at PHH
            have x3_0 := (K7.out).reads (i := 0) rfl
            have x3_1 := (K7.out).reads (i := 1) rfl
            have x3_2 := (K7.out).reads (i := 2) rfl
            go_wp2_with fail
            refine (PA.out _).mono ?_
            rintro e w4 ⟨rfl, hw4⟩
            clear x3_0 x3_1 x3_2
            replace K7 := Lib.hid ((K7.out).keptB hw4)
            replace K8 := Lib.hid ((K8.out).keptB hw4)
            replace HB := Lib.hid (bstep HB.out hw4)
            clear hw4
            have x5_0 := (K8.out).reads (i := 0) rfl
            have x5_1 := (K8.out).reads (i := 1) rfl
            have x5_2 := (K8.out).reads (i := 2) rfl
            go_wp2_with fail
            refine (PB.out _).mono ?_
            rintro e w6 ⟨rfl, hw6⟩
            clear x5_0 x5_1 x5_2
            replace K7 := Lib.hid ((K7.out).keptB hw6)
            replace K8 := Lib.hid ((K8.out).keptB hw6)
            replace HB := Lib.hid (bstep HB.out hw6)
            clear hw6
            have x7_0 := (K7.out).reads (i := 0) rfl
            have x7_1 := (K7.out).reads (i := 1) rfl
            have x7_2 := (K7.out).reads (i := 2) rfl
            have x8_0 := (K8.out).reads (i := 0) rfl
            have x8_1 := (K8.out).reads (i := 1) rfl
            have x8_2 := (K8.out).reads (i := 2) rfl
            go_wp2_with fail
            refine (PH.out _).mono ?_
            rintro e w9 ⟨rfl, hw9⟩
            clear x7_0 x7_1 x7_2 x8_0 x8_1 x8_2
            replace K7 := Lib.hid ((K7.out).keptB hw9)
            replace K8 := Lib.hid ((K8.out).keptB hw9)
            replace HB := Lib.hid (bstep HB.out hw9)
            clear hw9
            go_wp2_with fail
            refine (PHH.out _).mono ?_
            rintro e w10 ⟨rfl, hw10⟩
            replace K7 := Lib.hid ((K7.out).keptB hw10)
            replace K8 := Lib.hid ((K8.out).keptB hw10)
            replace HB := Lib.hid (bstep HB.out hw10)
            clear hw10
            go_wp2_with fail
            go_meet
            exact ⟨rfl, HB.out⟩
        · cases B
          · obtain rfl : C = false := by rw [← HC.out]; rfl
            have e2 := F2.out (Or.inl rfl)
            rw [e2] at PHH
            have x3_0 := (K7.out).reads (i := 0) rfl
            have x3_1 := (K7.out).reads (i := 1) rfl
            have x3_2 := (K7.out).reads (i := 2) rfl
            go_wp2_with fail
            refine (PA.out _).mono ?_
            rintro e w4 ⟨rfl, hw4⟩
            clear x3_0 x3_1 x3_2
            replace K7 := Lib.hid ((K7.out).keptB hw4)
            replace K8 := Lib.hid ((K8.out).keptB hw4)
            replace HB := Lib.hid (bstep HB.out hw4)
            clear hw4
            have x5_0 := (K7.out).reads (i := 0) rfl
            have x5_1 := (K7.out).reads (i := 1) rfl
            have x5_2 := (K7.out).reads (i := 2) rfl
            have x6_0 := (K8.out).reads (i := 0) rfl
            have x6_1 := (K8.out).reads (i := 1) rfl
            have x6_2 := (K8.out).reads (i := 2) rfl
            go_wp2_with fail
            refine (PH.out _).mono ?_
            rintro e w7 ⟨rfl, hw7⟩
            clear x5_0 x5_1 x5_2 x6_0 x6_1 x6_2
            replace K7 := Lib.hid ((K7.out).keptB hw7)
            replace K8 := Lib.hid ((K8.out).keptB hw7)
            replace HB := Lib.hid (bstep HB.out hw7)
            clear hw7
            go_wp2_with fail
            refine (PHH.out _).mono ?_
            rintro e w8 ⟨rfl, hw8⟩
            replace K7 := Lib.hid ((K7.out).keptB hw8)
            replace K8 := Lib.hid ((K8.out).keptB hw8)
            replace HB := Lib.hid (bstep HB.out hw8)
            clear hw8
            go_wp2_with fail
            go_meet
            exact ⟨rfl, HB.out⟩
          · obtain rfl : C = true := by rw [← HC.out]; rfl
            have e2 := F2.out (Or.inl rfl)
            rw [e2] at PHH
            have e1 := F1.out rfl rfl
            rw [e1] at PMH
            have x3_0 := (K7.out).reads (i := 0) rfl
            have x3_1 := (K7.out).reads (i := 1) rfl
            have x3_2 := (K7.out).reads (i := 2) rfl
            have x4_0 := (K8.out).reads (i := 0) rfl
            have x4_1 := (K8.out).reads (i := 1) rfl
            have x4_2 := (K8.out).reads (i := 2) rfl
            go_wp2_with fail
            refine (PM.out _).mono ?_
            rintro e w5 ⟨rfl, hw5⟩
            clear x3_0 x3_1 x3_2 x4_0 x4_1 x4_2
            replace K7 := Lib.hid ((K7.out).keptB hw5)
            replace K8 := Lib.hid ((K8.out).keptB hw5)
            replace HB := Lib.hid (bstep HB.out hw5)
            clear hw5
            go_wp2_with fail
            refine (PMH.out _).mono ?_
            rintro e w6 ⟨rfl, hw6⟩
            replace K7 := Lib.hid ((K7.out).keptB hw6)
            replace K8 := Lib.hid ((K8.out).keptB hw6)
            replace HB := Lib.hid (bstep HB.out hw6)
            clear hw6
            have x7_0 := (K7.out).reads (i := 0) rfl
            have x7_1 := (K7.out).reads (i := 1) rfl
            have x7_2 := (K7.out).reads (i := 2) rfl
            go_wp2_with fail
            refine (PA.out _).mono ?_
            rintro e w8 ⟨rfl, hw8⟩
            clear x7_0 x7_1 x7_2
            replace K7 := Lib.hid ((K7.out).keptB hw8)
            replace K8 := Lib.hid ((K8.out).keptB hw8)
            replace HB := Lib.hid (bstep HB.out hw8)
            clear hw8
            have x9_0 := (K7.out).reads (i := 0) rfl
            have x9_1 := (K7.out).reads (i := 1) rfl
            have x9_2 := (K7.out).reads (i := 2) rfl
            have x10_0 := (K8.out).reads (i := 0) rfl
            have x10_1 := (K8.out).reads (i := 1) rfl
            have x10_2 := (K8.out).reads (i := 2) rfl
            go_wp2_with fail
            refine (PH.out _).mono ?_
            rintro e w11 ⟨rfl, hw11⟩
            clear x9_0 x9_1 x9_2 x10_0 x10_1 x10_2
            replace K7 := Lib.hid ((K7.out).keptB hw11)
            replace K8 := Lib.hid ((K8.out).keptB hw11)
            replace HB := Lib.hid (bstep HB.out hw11)
            clear hw11
            go_wp2_with fail
            refine (PHH.out _).mono ?_
            rintro e w12 ⟨rfl, hw12⟩
            replace K7 := Lib.hid ((K7.out).keptB hw12)
            replace K8 := Lib.hid ((K8.out).keptB hw12)
            replace HB := Lib.hid (bstep HB.out hw12)
            clear hw12
            go_wp2_with fail
            go_meet
            exact ⟨rfl, HB.out⟩
      case rest =>
        obtain ⟨rfl, hb⟩ := hcut
        clear HB0
        replace K7 := Lib.hid ((K7.out).keptB hb)
        replace K8 := Lib.hid ((K8.out).keptB hb)
        replace HB := Lib.hid (bstep HB.out hb)
        clear hb
        have x3_0 := (K7.out).reads (i := 0) rfl
        have x3_1 := (K7.out).reads (i := 1) rfl
        have x3_2 := (K7.out).reads (i := 2) rfl
        have x4_0 := (K8.out).reads (i := 0) rfl
        have x4_1 := (K8.out).reads (i := 1) rfl
        have x4_2 := (K8.out).reads (i := 2) rfl
        go_wp2_with fail
        refine (PM.out _).mono ?_
        rintro e w5 ⟨rfl, hw5⟩
        clear x3_0 x3_1 x3_2 x4_0 x4_1 x4_2
        replace K7 := Lib.hid ((K7.out).keptB hw5)
        replace K8 := Lib.hid ((K8.out).keptB hw5)
        replace HB := Lib.hid (bstep HB.out hw5)
        clear hw5
        replace K7 := Lib.hid ((K7.out).laid (.cells #[.int .i64 M.lo, .int .i64 M.hi, .bool M.k] 24))
        replace K8 := Lib.hid ((K8.out).laid (.cells #[.int .i64 M.lo, .int .i64 M.hi, .bool M.k] 24))
        have K10 := Lib.hid (Holds.fresh w5 24 #[.int .i64 M.lo, .int .i64 M.hi, .bool M.k] (g := (w5).heap.size) rfl)
        replace HB := Lib.hid (bstep HB.out (bnew _ (.cells #[.int .i64 M.lo, .int .i64 M.hi, .bool M.k] 24)))
        go_upto_region 6 with fail
        generalize hg10 : (w5).heap.size = g10 at *
        generalize (w5.alloc (.cells #[.int .i64 M.lo, .int .i64 M.hi, .bool M.k] 24)) = W6 at *
        go_upto_region 6 with fail
        have HB0 := Lib.hid (Below.refl W6.heap.size W6)
        go_cut [89] (fun p wx => p = .bool false ∧ Below W6.heap.size W6 wx)
        case first =>
          clear HB
          have HB := HB0
          clear HB0
          cases hm : M.k
          · rw [hm] at K10
            have x6_0 := (K10.out).reads (i := 0) rfl
            have x6_1 := (K10.out).reads (i := 1) rfl
            have x6_2 := (K10.out).reads (i := 2) rfl
            go_wp2_with fail
            go_meet
            exact ⟨rfl, HB.out⟩
          · have F3a := Lib.hid (F3.out hm)
            rw [hm] at K10 PMH PV1 PV2
            rcases (Bool.eq_false_or_eq_true s.k).symm with hs | hs
            · rw [hs] at K7
              clear hs
              have x6_0 := (K10.out).reads (i := 0) rfl
              have x6_1 := (K10.out).reads (i := 1) rfl
              have x6_2 := (K10.out).reads (i := 2) rfl
              have x7_0 := (K7.out).reads (i := 0) rfl
              have x7_1 := (K7.out).reads (i := 1) rfl
              have x7_2 := (K7.out).reads (i := 2) rfl
              go_wp2_with fail
              go_meet
              exact ⟨rfl, HB.out⟩
            · have F3b := Lib.hid (F3a.out hs)
              rw [hs] at K7 PR1 PV1
              clear hs
              rcases (Bool.eq_false_or_eq_true o.k).symm with ho | ho
              · rw [ho] at K8
                clear ho
                have x6_0 := (K10.out).reads (i := 0) rfl
                have x6_1 := (K10.out).reads (i := 1) rfl
                have x6_2 := (K10.out).reads (i := 2) rfl
                have x7_0 := (K7.out).reads (i := 0) rfl
                have x7_1 := (K7.out).reads (i := 1) rfl
                have x7_2 := (K7.out).reads (i := 2) rfl
                have x8_0 := (K8.out).reads (i := 0) rfl
                have x8_1 := (K8.out).reads (i := 1) rfl
                have x8_2 := (K8.out).reads (i := 2) rfl
                go_wp2_with fail
                go_meet
                exact ⟨rfl, HB.out⟩
              · have F3c := Lib.hid (F3b.out ho)
                rw [ho] at K8 PR2 PV2
                clear ho
                cases R1
                · have x6_0 := (K10.out).reads (i := 0) rfl
                  have x6_1 := (K10.out).reads (i := 1) rfl
                  have x6_2 := (K10.out).reads (i := 2) rfl
                  have x7_0 := (K8.out).reads (i := 0) rfl
                  have x7_1 := (K8.out).reads (i := 1) rfl
                  have x7_2 := (K8.out).reads (i := 2) rfl
                  have x8_0 := (K7.out).reads (i := 0) rfl
                  have x8_1 := (K7.out).reads (i := 1) rfl
                  have x8_2 := (K7.out).reads (i := 2) rfl
                  go_wp2_with fail
                  refine (PR1.out _).mono ?_
                  rintro e w9 ⟨rfl, hw9⟩
                  clear x6_0 x6_1 x6_2 x7_0 x7_1 x7_2 x8_0 x8_1 x8_2
                  replace K7 := Lib.hid ((K7.out).keptB hw9)
                  replace K8 := Lib.hid ((K8.out).keptB hw9)
                  replace K10 := Lib.hid ((K10.out).keptB hw9)
                  replace HB := Lib.hid (bstep HB.out hw9)
                  clear hw9
                  go_wp2_with fail
                  go_meet
                  exact ⟨rfl, HB.out⟩
                · cases R2
                  · have x6_0 := (K10.out).reads (i := 0) rfl
                    have x6_1 := (K10.out).reads (i := 1) rfl
                    have x6_2 := (K10.out).reads (i := 2) rfl
                    have x7_0 := (K7.out).reads (i := 0) rfl
                    have x7_1 := (K7.out).reads (i := 1) rfl
                    have x7_2 := (K7.out).reads (i := 2) rfl
                    have x8_0 := (K8.out).reads (i := 0) rfl
                    have x8_1 := (K8.out).reads (i := 1) rfl
                    have x8_2 := (K8.out).reads (i := 2) rfl
                    go_wp2_with fail
                    refine (PR1.out _).mono ?_
                    rintro e w9 ⟨rfl, hw9⟩
                    clear x6_0 x6_1 x6_2 x7_0 x7_1 x7_2 x8_0 x8_1 x8_2
                    replace K7 := Lib.hid ((K7.out).keptB hw9)
                    replace K8 := Lib.hid ((K8.out).keptB hw9)
                    replace K10 := Lib.hid ((K10.out).keptB hw9)
                    replace HB := Lib.hid (bstep HB.out hw9)
                    clear hw9
                    have x10_0 := (K8.out).reads (i := 0) rfl
                    have x10_1 := (K8.out).reads (i := 1) rfl
                    have x10_2 := (K8.out).reads (i := 2) rfl
                    go_wp2_with fail
                    refine (PR2.out _).mono ?_
                    rintro e w11 ⟨rfl, hw11⟩
                    clear x10_0 x10_1 x10_2
                    replace K7 := Lib.hid ((K7.out).keptB hw11)
                    replace K8 := Lib.hid ((K8.out).keptB hw11)
                    replace K10 := Lib.hid ((K10.out).keptB hw11)
                    replace HB := Lib.hid (bstep HB.out hw11)
                    clear hw11
                    go_wp2_with fail
                    go_meet
                    exact ⟨rfl, HB.out⟩
                  · obtain ⟨y1, y2, y3⟩ := F3c.out rfl rfl
                    subst y1 y2 y3
                    have x6_0 := (K7.out).reads (i := 0) rfl
                    have x6_1 := (K7.out).reads (i := 1) rfl
                    have x6_2 := (K7.out).reads (i := 2) rfl
                    have x7_0 := (K8.out).reads (i := 0) rfl
                    have x7_1 := (K8.out).reads (i := 1) rfl
                    have x7_2 := (K8.out).reads (i := 2) rfl
                    have x8_0 := (K10.out).reads (i := 0) rfl
                    have x8_1 := (K10.out).reads (i := 1) rfl
                    have x8_2 := (K10.out).reads (i := 2) rfl
                    go_wp2_with fail
                    refine (PR1.out _).mono ?_
                    rintro e w9 ⟨rfl, hw9⟩
                    clear x6_0 x6_1 x6_2 x7_0 x7_1 x7_2 x8_0 x8_1 x8_2
                    replace K7 := Lib.hid ((K7.out).keptB hw9)
                    replace K8 := Lib.hid ((K8.out).keptB hw9)
                    replace K10 := Lib.hid ((K10.out).keptB hw9)
                    replace HB := Lib.hid (bstep HB.out hw9)
                    clear hw9
                    have x10_0 := (K8.out).reads (i := 0) rfl
                    have x10_1 := (K8.out).reads (i := 1) rfl
                    have x10_2 := (K8.out).reads (i := 2) rfl
                    go_wp2_with fail
                    refine (PR2.out _).mono ?_
                    rintro e w11 ⟨rfl, hw11⟩
                    clear x10_0 x10_1 x10_2
                    replace K7 := Lib.hid ((K7.out).keptB hw11)
                    replace K8 := Lib.hid ((K8.out).keptB hw11)
                    replace K10 := Lib.hid ((K10.out).keptB hw11)
                    replace HB := Lib.hid (bstep HB.out hw11)
                    clear hw11
                    have x12_0 := (K10.out).reads (i := 0) rfl
                    have x12_1 := (K10.out).reads (i := 1) rfl
                    have x12_2 := (K10.out).reads (i := 2) rfl
                    go_wp2_with fail
                    refine (PMH.out _).mono ?_
                    rintro e w13 ⟨rfl, hw13⟩
                    clear x12_0 x12_1 x12_2
                    replace K7 := Lib.hid ((K7.out).keptB hw13)
                    replace K8 := Lib.hid ((K8.out).keptB hw13)
                    replace K10 := Lib.hid ((K10.out).keptB hw13)
                    replace HB := Lib.hid (bstep HB.out hw13)
                    clear hw13
                    have x14_0 := (K10.out).reads (i := 0) rfl
                    have x14_1 := (K10.out).reads (i := 1) rfl
                    have x14_2 := (K10.out).reads (i := 2) rfl
                    have x15_0 := (K7.out).reads (i := 0) rfl
                    have x15_1 := (K7.out).reads (i := 1) rfl
                    have x15_2 := (K7.out).reads (i := 2) rfl
                    go_wp2_with fail
                    refine (PV1.out _).mono ?_
                    rintro e w16 ⟨rfl, hw16⟩
                    clear x14_0 x14_1 x14_2 x15_0 x15_1 x15_2
                    replace K7 := Lib.hid ((K7.out).keptB hw16)
                    replace K8 := Lib.hid ((K8.out).keptB hw16)
                    replace K10 := Lib.hid ((K10.out).keptB hw16)
                    replace HB := Lib.hid (bstep HB.out hw16)
                    clear hw16
                    have x17_0 := (K10.out).reads (i := 0) rfl
                    have x17_1 := (K10.out).reads (i := 1) rfl
                    have x17_2 := (K10.out).reads (i := 2) rfl
                    have x18_0 := (K8.out).reads (i := 0) rfl
                    have x18_1 := (K8.out).reads (i := 1) rfl
                    have x18_2 := (K8.out).reads (i := 2) rfl
                    go_wp2_with fail
                    refine (PV2.out _).mono ?_
                    rintro e w19 ⟨rfl, hw19⟩
                    clear x17_0 x17_1 x17_2 x18_0 x18_1 x18_2
                    replace K7 := Lib.hid ((K7.out).keptB hw19)
                    replace K8 := Lib.hid ((K8.out).keptB hw19)
                    replace K10 := Lib.hid ((K10.out).keptB hw19)
                    replace HB := Lib.hid (bstep HB.out hw19)
                    clear hw19
                    go_wp2_with fail
                    go_meet
                    exact ⟨rfl, HB.out⟩
        case rest =>
          obtain ⟨rfl, hb⟩ := hcut
          clear HB0
          replace K7 := Lib.hid ((K7.out).keptB hb)
          replace K8 := Lib.hid ((K8.out).keptB hb)
          replace K10 := Lib.hid ((K10.out).keptB hb)
          replace HB := Lib.hid (bstep HB.out hb)
          clear hb
          go_wp2_with fail
          have x6_0 := (K7.out).reads (i := 0) rfl
          have x6_1 := (K7.out).reads (i := 1) rfl
          have x6_2 := (K7.out).reads (i := 2) rfl
          have x7_0 := (K8.out).reads (i := 0) rfl
          have x7_1 := (K8.out).reads (i := 1) rfl
          have x7_2 := (K8.out).reads (i := 2) rfl
          go_region_held3 (fun v => v.cell? ⟨g7, 0, none⟩ = some (.int .i64 s.lo) ∧ v.cell? ⟨g7, 1, none⟩ = some (.int .i64 s.hi) ∧ v.cell? ⟨g7, 2, none⟩ = some (.bool s.k) ∧ v.cell? ⟨g8, 0, none⟩ = some (.int .i64 o.lo) ∧ v.cell? ⟨g8, 1, none⟩ = some (.int .i64 o.hi) ∧ v.cell? ⟨g8, 2, none⟩ = some (.bool o.k))
            (first | (with_reducible exact keep6 (by assumption) (by assumption)) | (with_reducible exact keep6 (bnew _ _) (by assumption)) | (exact ⟨x6_0, x6_1, x6_2, x7_0, x7_1, x7_2⟩) | go_keep)
            (first
              | (go_at_call 23; (with_reducible refine (alive3_any _).mono ?_); rintro e v8_0 ⟨rfl, hv8_0⟩)
              | (go_at_call 17; (with_reducible refine (PM.out _).mono ?_); rintro e v8_1 ⟨rfl, hv8_1⟩)
              | (go_at_call 17; (with_reducible refine (PM2.out _).mono ?_); rintro e v8_2 ⟨rfl, hv8_2⟩)
              | (go_at_call 12; (with_reducible refine (SM.out _).mono ?_); rintro e v8_3 ⟨rfl, hv8_3⟩)
              | (go_at_call 19; (with_reducible refine (PH.out _).mono ?_); rintro e v8_4 ⟨rfl, hv8_4⟩)
              | (go_at_call 19; (with_reducible refine (PH2.out _).mono ?_); rintro e v8_5 ⟨rfl, hv8_5⟩)
              | (go_at_call 12; (with_reducible refine (SH.out _).mono ?_); rintro e v8_6 ⟨rfl, hv8_6⟩))
          have HV9 := Lib.hid (bstep (bstep (bstep (bstep (bstep (bstep (bstep (bdrew (Below.refl (wc).heap.size wc)) hv8_0) hv8_1) hv8_2) hv8_3) hv8_4) hv8_5) hv8_6)
          clear x6_0 x6_1 x6_2 x7_0 x7_1 x7_2
          replace K7 := Lib.hid ((K7.out).keptB HV9.out)
          replace K8 := Lib.hid ((K8.out).keptB HV9.out)
          replace K10 := Lib.hid ((K10.out).keptB HV9.out)
          replace HB := Lib.hid (bstep HB.out HV9.out)
          clear hv8_0 hv8_1 hv8_2 hv8_3 hv8_4 hv8_5 hv8_6 HV9
          go_wp2
          go_ret
          exact ⟨rfl, HB.out⟩

end Go.Proofs.Ytcjfiipcmaegnaa
