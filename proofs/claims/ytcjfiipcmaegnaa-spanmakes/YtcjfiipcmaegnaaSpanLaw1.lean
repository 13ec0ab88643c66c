/- The walk over the law SpanMakes. -/
import Derived.Test.YtcjfiipcmaegnaaSpanLawWords
namespace Go.Proofs.Ytcjfiipcmaegnaa
open Go.RowKit
set_option linter.unusedVariables false

set_option maxRecDepth 100000 in
set_option maxHeartbeats 4000000 in
theorem spanmakes_walk (s o : Sp) (n : Int) (w : World) :
    Calls Try.prog 3 #[.agg #[.int .i64 (s).lo, .int .i64 (s).hi, .bool (s).k], .agg #[.int .i64 (o).lo, .int .i64 (o).hi, .bool (o).k], .int .i64 n] w fun e w' => e = .returned (.bool true) ∧ Below w.heap.size w w' := by
  obtain ⟨X1, HX1⟩ : ∃ X1, Hid (addS s o = X1) := ⟨_, Lib.hid rfl⟩
  have PX1 := Lib.hid (add3_any s o)
  rw [HX1.out] at PX1
  have RX1 := Lib.hid (radd3_any s o)
  rw [HX1.out] at RX1
  have SX1 := Lib.hid (same3_eq X1)
  obtain ⟨X2, HX2⟩ : ∃ X2, Hid (subS s o = X2) := ⟨_, Lib.hid rfl⟩
  have PX2 := Lib.hid (sub3_any s o)
  rw [HX2.out] at PX2
  have RX2 := Lib.hid (rsub3_any s o)
  rw [HX2.out] at RX2
  have SX2 := Lib.hid (same3_eq X2)
  obtain ⟨X3, HX3⟩ : ∃ X3, Hid (meetS s o = X3) := ⟨_, Lib.hid rfl⟩
  have PX3 := Lib.hid (meet3_any s o)
  rw [HX3.out] at PX3
  have RX3 := Lib.hid (rmeet3_any s o)
  rw [HX3.out] at RX3
  have SX3 := Lib.hid (same3_eq X3)
  obtain ⟨X4, HX4⟩ : ∃ X4, Hid (hullS s o = X4) := ⟨_, Lib.hid rfl⟩
  have PX4 := Lib.hid (hull3_any s o)
  rw [HX4.out] at PX4
  have RX4 := Lib.hid (rhull3_any s o)
  rw [HX4.out] at RX4
  have SX4 := Lib.hid (same3_eq X4)
  obtain ⟨X5, HX5⟩ : ∃ X5, Hid (shiftS s n = X5) := ⟨_, Lib.hid rfl⟩
  have PX5 := Lib.hid (shift3_any s n)
  rw [HX5.out] at PX5
  obtain ⟨O, HO⟩ : ∃ O, Hid (ofS n n = O) := ⟨_, Lib.hid rfl⟩
  have RO := Lib.hid (rof3_any n n)
  rw [HO.out] at RO
  have RX5 := Lib.hid (radd3_any s O)
  rw [show addS s O = X5 by rw [← HO.out, add_of, HX5.out]] at RX5
  have SX5 := Lib.hid (same3_eq X5)
  obtain ⟨R1, HR1⟩ : ∃ R1, Hid (hasS s n = R1) := ⟨_, Lib.hid rfl⟩
  have PH := Lib.hid (has3_any s n)
  rw [HR1.out] at PH
  have RH := Lib.hid (rhas3_any s n)
  rw [HR1.out] at RH
  obtain ⟨R2, HR2⟩ : ∃ R2, Hid (withinS s o = R2) := ⟨_, Lib.hid rfl⟩
  have PW := Lib.hid (within3_any s o)
  rw [HR2.out] at PW
  have RW := Lib.hid (rwithin3_any s o)
  rw [HR2.out] at RW
  obtain ⟨R3, HR3⟩ : ∃ R3, Hid (rgtB s = R3) := ⟨_, Lib.hid rfl⟩
  have PR := Lib.hid (right3_any s)
  rw [HR3.out] at PR
  have RR := Lib.hid (rright3_any s)
  rw [HR3.out] at RR
  obtain ⟨wv, Hwv⟩ : ∃ wv, Hid (told (widB s) (s.hi - s.lo) = wv) := ⟨_, Lib.hid rfl⟩
  obtain ⟨wb, Hwb⟩ : ∃ wb, Hid (widB s = wb) := ⟨_, Lib.hid rfl⟩
  have PD := Lib.hid (width3_any s)
  rw [Hwv.out, Hwb.out] at PD
  have RD := Lib.hid (rwidth3_any s)
  rw [Hwv.out, Hwb.out] at RD
  have OW0 := Lib.hid (own3_any s)
  have OW1 := Lib.hid (own3_any o)
  clear HX1 HX2 HX3 HX4 HX5 HO HR1 HR2 HR3 Hwv Hwb
  have K0 := Lib.hid (Holds.fresh w 23 #[.int .i64 s.lo, .int .i64 s.hi, .bool s.k] (g := w.heap.size) (by simp))
  replace K0 := Lib.hid ((K0.out).laid (.cells #[.int .i64 o.lo, .int .i64 o.hi, .bool o.k] 23))
  have K1 := Lib.hid (Holds.fresh (w.alloc (.cells #[.int .i64 s.lo, .int .i64 s.hi, .bool s.k] 23)) 23 #[.int .i64 o.lo, .int .i64 o.hi, .bool o.k] (g := w.heap.size + 1) (by simp))
  have HB := Lib.hid (bstep (bnew w (.cells #[.int .i64 s.lo, .int .i64 s.hi, .bool s.k] 23)) (bnew _ (.cells #[.int .i64 o.lo, .int .i64 o.hi, .bool o.k] 23)))
  go_enter Try.func3, Try.ntmps3
  go_upto_region 1 with fail
  generalize ((w.alloc (.cells #[.int .i64 s.lo, .int .i64 s.hi, .bool s.k] 23)).alloc (.cells #[.int .i64 o.lo, .int .i64 o.hi, .bool o.k] 23)) = W0 at *
  go_wp2_with fail
  have x1_0 := (K0.out).reads (i := 0) rfl
  have x1_1 := (K0.out).reads (i := 1) rfl
  have x1_2 := (K0.out).reads (i := 2) rfl
  have x2_0 := (K1.out).reads (i := 0) rfl
  have x2_1 := (K1.out).reads (i := 1) rfl
  have x2_2 := (K1.out).reads (i := 2) rfl
  have HS0 := Lib.hid (show W0.cell? ⟨w.heap.size, 0, none⟩ = some (.int .i64 s.lo) ∧ W0.cell? ⟨w.heap.size, 1, none⟩ = some (.int .i64 s.hi) ∧ W0.cell? ⟨w.heap.size, 2, none⟩ = some (.bool s.k) ∧ W0.cell? ⟨w.heap.size + 1, 0, none⟩ = some (.int .i64 o.lo) ∧ W0.cell? ⟨w.heap.size + 1, 1, none⟩ = some (.int .i64 o.hi) ∧ W0.cell? ⟨w.heap.size + 1, 2, none⟩ = some (.bool o.k) from ⟨x1_0, x1_1, x1_2, x2_0, x2_1, x2_2⟩)
  go_cut [7, 8] (fun p q wx => Pair s o W0 p q wx)
  case first =>
    refine wp_region_noPanic ?_
    refine wp_region_held_drew (S := fun v => v.cell? ⟨w.heap.size, 0, none⟩ = some (.int .i64 s.lo) ∧ v.cell? ⟨w.heap.size, 1, none⟩ = some (.int .i64 s.hi) ∧ v.cell? ⟨w.heap.size, 2, none⟩ = some (.bool s.k) ∧ v.cell? ⟨w.heap.size + 1, 0, none⟩ = some (.int .i64 o.lo) ∧ v.cell? ⟨w.heap.size + 1, 1, none⟩ = some (.int .i64 o.hi) ∧ v.cell? ⟨w.heap.size + 1, 2, none⟩ = some (.bool o.k)) (by kernel_rfl) ?_ (fun hHeld => ?_)
    · exact HS0.out
    refine wpAnyH_take (i := 0) (v := .agg #[.int .i64 (s).lo, .int .i64 (s).hi, .bool (s).k]) (at_list rfl) (by kernel_rfl) (by kernel_rfl) (by kernel_rfl) (fun _ _ _ h => h) (Or.inl ⟨by rfl, ?_⟩) (by assumption) ?_
    · intro v hSv
      obtain ⟨q0, q1, q2, q3, q4, q5⟩ := hSv
      go_simp
    try simp only [Act.put, List.setIfInBounds_toArray, List.set_cons_zero, List.set_cons_succ]
    refine wpAnyH_take (i := 2) (v := .agg #[.int .i64 (o).lo, .int .i64 (o).hi, .bool (o).k]) (at_list rfl) (by kernel_rfl) (by kernel_rfl) (by kernel_rfl) (fun _ _ _ h => h) (Or.inl ⟨by rfl, ?_⟩) (by assumption) ?_
    · intro v hSv
      obtain ⟨q0, q1, q2, q3, q4, q5⟩ := hSv
      go_simp
    try simp only [Act.put, List.setIfInBounds_toArray, List.set_cons_zero, List.set_cons_succ]
    refine wpAnyH_ready (rs := [1, 4, 5]) (by kernel_rfl) (by simp) ?_
    refine AllReadyH.cons (at_list rfl) (fun K hK => ?_) ?_
    · go_simp
      refine (OW0.out _).mono ?_
      rintro e w1 ⟨rfl, hb1⟩
      have Q1 := Lib.hid (bstep (bdrew (Below.refl _ _)) hb1)
      go_wp2_with fail
      refine hK.out _ _ ?_ (fun hHeld => ?_)
      · exact keep6 Q1.out HS0.out
      clear hK K
      try simp only [Act.put, List.setIfInBounds_toArray, List.set_cons_zero, List.set_cons_succ]
      refine wpAnyH_ready (rs := [3, 4, 5]) (by kernel_rfl) (by simp) ?_
      refine AllReadyH.cons (at_list rfl) (fun K hK => ?_) ?_
      · go_simp
        refine (OW1.out _).mono ?_
        rintro e w2 ⟨rfl, hb2⟩
        have Q2 := Lib.hid (bstep (Q1.out) hb2)
        go_wp2_with fail
        refine hK.out _ _ ?_ (fun hHeld => ?_)
        · exact keep6 Q2.out HS0.out
        clear hK K
        try simp only [Act.put, List.setIfInBounds_toArray, List.set_cons_zero, List.set_cons_succ]
        refine wpAnyH_ready (rs := [4, 5]) (by kernel_rfl) (by simp) ?_
        refine AllReadyH.cons (at_list rfl) (fun K hK => ?_) ?_
        · go_simp
          refine hK.out _ _ ?_ (fun hHeld => ?_)
          · exact keep6 (bstep (Q2.out) (bnew _ (.cells #[.int .i64 0, .int .i64 0, .bool false] 24))) HS0.out
          clear hK K
          try simp only [Act.put, List.setIfInBounds_toArray, List.set_cons_zero, List.set_cons_succ]
          refine wpAnyH_ready (rs := [5]) (by kernel_rfl) (by simp) ?_
          refine AllReadyH.cons (at_list rfl) (fun K hK => ?_) ?_
          · go_simp
            refine hK.out _ _ ?_ (fun hHeld => ?_)
            · exact keep6 (bstep (bstep (Q2.out) (bnew _ (.cells #[.int .i64 0, .int .i64 0, .bool false] 24))) (bnew _ (.cells #[.int .i64 0, .int .i64 0, .bool false] 24))) HS0.out
            clear hK K
            try simp only [Act.put, List.setIfInBounds_toArray, List.set_cons_zero, List.set_cons_succ]
            have LA := Lib.hid ((Holds.fresh w2 24 #[.int .i64 0, .int .i64 0, .bool false] (g := w2.heap.size) (by simp)).laid (.cells #[.int .i64 0, .int .i64 0, .bool false] 24))
            have LB := Lib.hid (Holds.fresh (w2.alloc (.cells #[.int .i64 0, .int .i64 0, .bool false] 24)) 24 #[.int .i64 0, .int .i64 0, .bool false] (g := w2.heap.size + 1) (by simp))
            have QQ := Lib.hid (bstep (bstep (Q2.out) (bnew _ (.cells #[.int .i64 0, .int .i64 0, .bool false] 24))) (bnew _ (.cells #[.int .i64 0, .int .i64 0, .bool false] 24)))
            have sz1 := (Q1.out).size
            have sz2 := (Q2.out).size
            have sz3 := hb2.size
            try simp at sz3
            have leA : W0.heap.size ≤ w2.heap.size := by omega
            have leB : W0.heap.size ≤ w2.heap.size + 1 := by omega
            have neA : ¬ (w2.heap.size = w2.heap.size + 1) := by first | omega | (have := hb1.size; simp at this; omega)
            have neB : ¬ (w2.heap.size + 1 = w2.heap.size) := fun h => neA h.symm
            clear sz1 sz2 sz3
            generalize ((w2.alloc (.cells #[.int .i64 0, .int .i64 0, .bool false] 24)).alloc (.cells #[.int .i64 0, .int .i64 0, .bool false] 24)) = V at *
            have la0 := (LA.out).reads (i := 0) rfl; have la1 := (LA.out).reads (i := 1) rfl; have la2 := (LA.out).reads (i := 2) rfl
            have lb0 := (LB.out).reads (i := 0) rfl; have lb1 := (LB.out).reads (i := 1) rfl; have lb2 := (LB.out).reads (i := 2) rfl
            have la3 := (LA.out).open_ 0; have la4 := (LA.out).open_ 1; have la5 := (LA.out).open_ 2
            have lb3 := (LB.out).open_ 0; have lb4 := (LB.out).open_ 1; have lb5 := (LB.out).open_ 2
            refine wpAnyH_ready (rs := [6]) (by kernel_rfl) (by simp) ?_
            refine AllReadyH.cons (at_list rfl) (fun K hK => ?_) AllReadyH.nil
            go_simp
            refine hK.out _ _ ?_ (fun hHeld => ?_)
            · exact keep6 (bput3 QQ.out leA _ _ _) HS0.out
            clear hK K
            try simp only [Act.put, List.setIfInBounds_toArray, List.set_cons_zero, List.set_cons_succ]
            refine wpAnyH_ready (rs := [7]) (by kernel_rfl) (by simp) ?_
            refine AllReadyH.cons (at_list rfl) (fun K hK => ?_) AllReadyH.nil
            go_simp
            refine hK.out _ _ ?_ (fun hHeld => ?_)
            · exact keep6 (bput3 (bput3 QQ.out leA _ _ _) leB _ _ _) HS0.out
            clear hK K
            try simp only [Act.put, List.setIfInBounds_toArray, List.set_cons_zero, List.set_cons_succ]
            refine wpAnyH_done (by kernel_rfl) ?_ _
            refine NoPanic.normal ?_
            go_wp2_with fail
            go_meet
            exact ⟨_, _, rfl, rfl, ((LA.out).put3 _ _ _).aside3 neB _ _ _, ((LB.out).aside3 neA _ _ _).put3 _ _ _, bput3 (bput3 QQ.out leA _ _ _) leB _ _ _⟩
          exact AllReadyH.nil
        refine AllReadyH.cons (at_list rfl) (fun K hK => ?_) ?_
        · go_simp
          refine hK.out _ _ ?_ (fun hHeld => ?_)
          · exact keep6 (bstep (Q2.out) (bnew _ (.cells #[.int .i64 0, .int .i64 0, .bool false] 24))) HS0.out
          clear hK K
          try simp only [Act.put, List.setIfInBounds_toArray, List.set_cons_zero, List.set_cons_succ]
          refine wpAnyH_ready (rs := [4]) (by kernel_rfl) (by simp) ?_
          refine AllReadyH.cons (at_list rfl) (fun K hK => ?_) ?_
          · go_simp
            refine hK.out _ _ ?_ (fun hHeld => ?_)
            · exact keep6 (bstep (bstep (Q2.out) (bnew _ (.cells #[.int .i64 0, .int .i64 0, .bool false] 24))) (bnew _ (.cells #[.int .i64 0, .int .i64 0, .bool false] 24))) HS0.out
            clear hK K
            try simp only [Act.put, List.setIfInBounds_toArray, List.set_cons_zero, List.set_cons_succ]
            have LA := Lib.hid (Holds.fresh (w2.alloc (.cells #[.int .i64 0, .int .i64 0, .bool false] 24)) 24 #[.int .i64 0, .int .i64 0, .bool false] (g := w2.heap.size + 1) (by simp))
            have LB := Lib.hid ((Holds.fresh w2 24 #[.int .i64 0, .int .i64 0, .bool false] (g := w2.heap.size) (by simp)).laid (.cells #[.int .i64 0, .int .i64 0, .bool false] 24))
            have QQ := Lib.hid (bstep (bstep (Q2.out) (bnew _ (.cells #[.int .i64 0, .int .i64 0, .bool false] 24))) (bnew _ (.cells #[.int .i64 0, .int .i64 0, .bool false] 24)))
            have sz1 := (Q1.out).size
            have sz2 := (Q2.out).size
            have sz3 := hb2.size
            try simp at sz3
            have leA : W0.heap.size ≤ w2.heap.size + 1 := by omega
            have leB : W0.heap.size ≤ w2.heap.size := by omega
            have neA : ¬ (w2.heap.size + 1 = w2.heap.size) := by first | omega | (have := hb1.size; simp at this; omega)
            have neB : ¬ (w2.heap.size = w2.heap.size + 1) := fun h => neA h.symm
            clear sz1 sz2 sz3
            generalize ((w2.alloc (.cells #[.int .i64 0, .int .i64 0, .bool false] 24)).alloc (.cells #[.int .i64 0, .int .i64 0, .bool false] 24)) = V at *
            have la0 := (LA.out).reads (i := 0) rfl; have la1 := (LA.out).reads (i := 1) rfl; have la2 := (LA.out).reads (i := 2) rfl
            have lb0 := (LB.out).reads (i := 0) rfl; have lb1 := (LB.out).reads (i := 1) rfl; have lb2 := (LB.out).reads (i := 2) rfl
            have la3 := (LA.out).open_ 0; have la4 := (LA.out).open_ 1; have la5 := (LA.out).open_ 2
            have lb3 := (LB.out).open_ 0; have lb4 := (LB.out).open_ 1; have lb5 := (LB.out).open_ 2
            refine wpAnyH_ready (rs := [6]) (by kernel_rfl) (by simp) ?_
            refine AllReadyH.cons (at_list rfl) (fun K hK => ?_) AllReadyH.nil
            go_simp
            refine hK.out _ _ ?_ (fun hHeld => ?_)
            · exact keep6 (bput3 QQ.out leA _ _ _) HS0.out
            clear hK K
            try simp only [Act.put, List.setIfInBounds_toArray, List.set_cons_zero, List.set_cons_succ]
            refine wpAnyH_ready (rs := [7]) (by kernel_rfl) (by simp) ?_
            refine AllReadyH.cons (at_list rfl) (fun K hK => ?_) AllReadyH.nil
            go_simp
            refine hK.out _ _ ?_ (fun hHeld => ?_)
            · exact keep6 (bput3 (bput3 QQ.out leA _ _ _) leB _ _ _) HS0.out
            clear hK K
            try simp only [Act.put, List.setIfInBounds_toArray, List.set_cons_zero, List.set_cons_succ]
            refine wpAnyH_done (by kernel_rfl) ?_ _
            refine NoPanic.normal ?_
            go_wp2_with fail
            go_meet
            exact ⟨_, _, rfl, rfl, ((LA.out).put3 _ _ _).aside3 neB _ _ _, ((LB.out).aside3 neA _ _ _).put3 _ _ _, bput3 (bput3 QQ.out leA _ _ _) leB _ _ _⟩
          exact AllReadyH.nil
        exact AllReadyH.nil
      refine AllReadyH.cons (at_list rfl) (fun K hK => ?_) ?_
      · go_simp
        refine hK.out _ _ ?_ (fun hHeld => ?_)
        · exact keep6 (bstep (Q1.out) (bnew _ (.cells #[.int .i64 0, .int .i64 0, .bool false] 24))) HS0.out
        clear hK K
        try simp only [Act.put, List.setIfInBounds_toArray, List.set_cons_zero, List.set_cons_succ]
        refine wpAnyH_ready (rs := [3, 5]) (by kernel_rfl) (by simp) ?_
        refine AllReadyH.cons (at_list rfl) (fun K hK => ?_) ?_
        · go_simp
          refine (OW1.out _).mono ?_
          rintro e w2 ⟨rfl, hb2⟩
          have Q2 := Lib.hid (bstep (bstep (Q1.out) (bnew _ (.cells #[.int .i64 0, .int .i64 0, .bool false] 24))) hb2)
          have KA2 := Lib.hid ((Holds.fresh w1 24 #[.int .i64 0, .int .i64 0, .bool false] (g := w1.heap.size) (by simp)).keptB hb2)
          go_wp2_with fail
          refine hK.out _ _ ?_ (fun hHeld => ?_)
          · exact keep6 Q2.out HS0.out
          clear hK K
          try simp only [Act.put, List.setIfInBounds_toArray, List.set_cons_zero, List.set_cons_succ]
          refine wpAnyH_ready (rs := [5]) (by kernel_rfl) (by simp) ?_
          refine AllReadyH.cons (at_list rfl) (fun K hK => ?_) ?_
          · go_simp
            refine hK.out _ _ ?_ (fun hHeld => ?_)
            · exact keep6 (bstep (Q2.out) (bnew _ (.cells #[.int .i64 0, .int .i64 0, .bool false] 24))) HS0.out
            clear hK K
            try simp only [Act.put, List.setIfInBounds_toArray, List.set_cons_zero, List.set_cons_succ]
            have LA := Lib.hid ((KA2.out).laid (.cells #[.int .i64 0, .int .i64 0, .bool false] 24))
            have LB := Lib.hid (Holds.fresh w2 24 #[.int .i64 0, .int .i64 0, .bool false] (g := w2.heap.size) (by simp))
            have QQ := Lib.hid (bstep (Q2.out) (bnew _ (.cells #[.int .i64 0, .int .i64 0, .bool false] 24)))
            have sz1 := (Q1.out).size
            have sz2 := (Q2.out).size
            have sz3 := hb2.size
            try simp at sz3
            have leA : W0.heap.size ≤ w1.heap.size := by omega
            have leB : W0.heap.size ≤ w2.heap.size := by omega
            have neA : ¬ (w1.heap.size = w2.heap.size) := by first | omega | (have := hb1.size; simp at this; omega)
            have neB : ¬ (w2.heap.size = w1.heap.size) := fun h => neA h.symm
            clear sz1 sz2 sz3
            generalize (w2.alloc (.cells #[.int .i64 0, .int .i64 0, .bool false] 24)) = V at *
            have la0 := (LA.out).reads (i := 0) rfl; have la1 := (LA.out).reads (i := 1) rfl; have la2 := (LA.out).reads (i := 2) rfl
            have lb0 := (LB.out).reads (i := 0) rfl; have lb1 := (LB.out).reads (i := 1) rfl; have lb2 := (LB.out).reads (i := 2) rfl
            have la3 := (LA.out).open_ 0; have la4 := (LA.out).open_ 1; have la5 := (LA.out).open_ 2
            have lb3 := (LB.out).open_ 0; have lb4 := (LB.out).open_ 1; have lb5 := (LB.out).open_ 2
            refine wpAnyH_ready (rs := [6]) (by kernel_rfl) (by simp) ?_
            refine AllReadyH.cons (at_list rfl) (fun K hK => ?_) AllReadyH.nil
            go_simp
            refine hK.out _ _ ?_ (fun hHeld => ?_)
            · exact keep6 (bput3 QQ.out leA _ _ _) HS0.out
            clear hK K
            try simp only [Act.put, List.setIfInBounds_toArray, List.set_cons_zero, List.set_cons_succ]
            refine wpAnyH_ready (rs := [7]) (by kernel_rfl) (by simp) ?_
            refine AllReadyH.cons (at_list rfl) (fun K hK => ?_) AllReadyH.nil
            go_simp
            refine hK.out _ _ ?_ (fun hHeld => ?_)
            · exact keep6 (bput3 (bput3 QQ.out leA _ _ _) leB _ _ _) HS0.out
            clear hK K
            try simp only [Act.put, List.setIfInBounds_toArray, List.set_cons_zero, List.set_cons_succ]
            refine wpAnyH_done (by kernel_rfl) ?_ _
            refine NoPanic.normal ?_
            go_wp2_with fail
            go_meet
            exact ⟨_, _, rfl, rfl, ((LA.out).put3 _ _ _).aside3 neB _ _ _, ((LB.out).aside3 neA _ _ _).put3 _ _ _, bput3 (bput3 QQ.out leA _ _ _) leB _ _ _⟩
          exact AllReadyH.nil
        refine AllReadyH.cons (at_list rfl) (fun K hK => ?_) ?_
        · go_simp
          refine hK.out _ _ ?_ (fun hHeld => ?_)
          · exact keep6 (bstep (bstep (Q1.out) (bnew _ (.cells #[.int .i64 0, .int .i64 0, .bool false] 24))) (bnew _ (.cells #[.int .i64 0, .int .i64 0, .bool false] 24))) HS0.out
          clear hK K
          try simp only [Act.put, List.setIfInBounds_toArray, List.set_cons_zero, List.set_cons_succ]
          refine wpAnyH_ready (rs := [3]) (by kernel_rfl) (by simp) ?_
          refine AllReadyH.cons (at_list rfl) (fun K hK => ?_) ?_
          · go_simp
            refine (OW1.out _).mono ?_
            rintro e w2 ⟨rfl, hb2⟩
            have Q2 := Lib.hid (bstep (bstep (bstep (Q1.out) (bnew _ (.cells #[.int .i64 0, .int .i64 0, .bool false] 24))) (bnew _ (.cells #[.int .i64 0, .int .i64 0, .bool false] 24))) hb2)
            have KA2 := Lib.hid (((Holds.fresh w1 24 #[.int .i64 0, .int .i64 0, .bool false] (g := w1.heap.size) (by simp)).laid (.cells #[.int .i64 0, .int .i64 0, .bool false] 24)).keptB hb2)
            have KB2 := Lib.hid ((Holds.fresh (w1.alloc (.cells #[.int .i64 0, .int .i64 0, .bool false] 24)) 24 #[.int .i64 0, .int .i64 0, .bool false] (g := w1.heap.size + 1) (by simp)).keptB hb2)
            go_wp2_with fail
            refine hK.out _ _ ?_ (fun hHeld => ?_)
            · exact keep6 Q2.out HS0.out
            clear hK K
            try simp only [Act.put, List.setIfInBounds_toArray, List.set_cons_zero, List.set_cons_succ]
            have LA := Lib.hid (KA2.out)
            have LB := Lib.hid (KB2.out)
            have QQ := Lib.hid (Q2.out)
            have sz1 := (Q1.out).size
            have sz2 := (Q2.out).size
            have sz3 := hb2.size
            try simp at sz3
            have leA : W0.heap.size ≤ w1.heap.size := by omega
            have leB : W0.heap.size ≤ w1.heap.size + 1 := by omega
            have neA : ¬ (w1.heap.size = w1.heap.size + 1) := by first | omega | (have := hb1.size; simp at this; omega)
            have neB : ¬ (w1.heap.size + 1 = w1.heap.size) := fun h => neA h.symm
            clear sz1 sz2 sz3
            have la0 := (LA.out).reads (i := 0) rfl; have la1 := (LA.out).reads (i := 1) rfl; have la2 := (LA.out).reads (i := 2) rfl
            have lb0 := (LB.out).reads (i := 0) rfl; have lb1 := (LB.out).reads (i := 1) rfl; have lb2 := (LB.out).reads (i := 2) rfl
            have la3 := (LA.out).open_ 0; have la4 := (LA.out).open_ 1; have la5 := (LA.out).open_ 2
            have lb3 := (LB.out).open_ 0; have lb4 := (LB.out).open_ 1; have lb5 := (LB.out).open_ 2
            refine wpAnyH_ready (rs := [6]) (by kernel_rfl) (by simp) ?_
            refine AllReadyH.cons (at_list rfl) (fun K hK => ?_) AllReadyH.nil
            go_simp
            refine hK.out _ _ ?_ (fun hHeld => ?_)
            · exact keep6 (bput3 QQ.out leA _ _ _) HS0.out
            clear hK K
            try simp only [Act.put, List.setIfInBounds_toArray, List.set_cons_zero, List.set_cons_succ]
            refine wpAnyH_ready (rs := [7]) (by kernel_rfl) (by simp) ?_
            refine AllReadyH.cons (at_list rfl) (fun K hK => ?_) AllReadyH.nil
            go_simp
            refine hK.out _ _ ?_ (fun hHeld => ?_)
            · exact keep6 (bput3 (bput3 QQ.out leA _ _ _) leB _ _ _) HS0.out
            clear hK K
            try simp only [Act.put, List.setIfInBounds_toArray, List.set_cons_zero, List.set_cons_succ]
            refine wpAnyH_done (by kernel_rfl) ?_ _
            refine NoPanic.normal ?_
            go_wp2_with fail
            go_meet
            exact ⟨_, _, rfl, rfl, ((LA.out).put3 _ _ _).aside3 neB _ _ _, ((LB.out).aside3 neA _ _ _).put3 _ _ _, bput3 (bput3 QQ.out leA _ _ _) leB _ _ _⟩
          exact AllReadyH.nil
        exact AllReadyH.nil
      refine AllReadyH.cons (at_list rfl) (fun K hK => ?_) ?_
      · go_simp
        refine hK.out _ _ ?_ (fun hHeld => ?_)
        · exact keep6 (bstep (Q1.out) (bnew _ (.cells #[.int .i64 0, .int .i64 0, .bool false] 24))) HS0.out
        clear hK K
        try simp only [Act.put, List.setIfInBounds_toArray, List.set_cons_zero, List.set_cons_succ]
        refine wpAnyH_ready (rs := [3, 4]) (by kernel_rfl) (by simp) ?_
        refine AllReadyH.cons (at_list rfl) (fun K hK => ?_) ?_
        · go_simp
          refine (OW1.out _).mono ?_
          rintro e w2 ⟨rfl, hb2⟩
          have Q2 := Lib.hid (bstep (bstep (Q1.out) (bnew _ (.cells #[.int .i64 0, .int .i64 0, .bool false] 24))) hb2)
          have KB2 := Lib.hid ((Holds.fresh w1 24 #[.int .i64 0, .int .i64 0, .bool false] (g := w1.heap.size) (by simp)).keptB hb2)
          go_wp2_with fail
          refine hK.out _ _ ?_ (fun hHeld => ?_)
          · exact keep6 Q2.out HS0.out
          clear hK K
          try simp only [Act.put, List.setIfInBounds_toArray, List.set_cons_zero, List.set_cons_succ]
          refine wpAnyH_ready (rs := [4]) (by kernel_rfl) (by simp) ?_
          refine AllReadyH.cons (at_list rfl) (fun K hK => ?_) ?_
          · go_simp
            refine hK.out _ _ ?_ (fun hHeld => ?_)
            · exact keep6 (bstep (Q2.out) (bnew _ (.cells #[.int .i64 0, .int .i64 0, .bool false] 24))) HS0.out
            clear hK K
            try simp only [Act.put, List.setIfInBounds_toArray, List.set_cons_zero, List.set_cons_succ]
            have LA := Lib.hid (Holds.fresh w2 24 #[.int .i64 0, .int .i64 0, .bool false] (g := w2.heap.size) (by simp))
            have LB := Lib.hid ((KB2.out).laid (.cells #[.int .i64 0, .int .i64 0, .bool false] 24))
            have QQ := Lib.hid (bstep (Q2.out) (bnew _ (.cells #[.int .i64 0, .int .i64 0, .bool false] 24)))
            have sz1 := (Q1.out).size
            have sz2 := (Q2.out).size
            have sz3 := hb2.size
            try simp at sz3
            have leA : W0.heap.size ≤ w2.heap.size := by omega
            have leB : W0.heap.size ≤ w1.heap.size := by omega
            have neA : ¬ (w2.heap.size = w1.heap.size) := by first | omega | (have := hb1.size; simp at this; omega)
            have neB : ¬ (w1.heap.size = w2.heap.size) := fun h => neA h.symm
            clear sz1 sz2 sz3
            generalize (w2.alloc (.cells #[.int .i64 0, .int .i64 0, .bool false] 24)) = V at *
            have la0 := (LA.out).reads (i := 0) rfl; have la1 := (LA.out).reads (i := 1) rfl; have la2 := (LA.out).reads (i := 2) rfl
            have lb0 := (LB.out).reads (i := 0) rfl; have lb1 := (LB.out).reads (i := 1) rfl; have lb2 := (LB.out).reads (i := 2) rfl
            have la3 := (LA.out).open_ 0; have la4 := (LA.out).open_ 1; have la5 := (LA.out).open_ 2
            have lb3 := (LB.out).open_ 0; have lb4 := (LB.out).open_ 1; have lb5 := (LB.out).open_ 2
            refine wpAnyH_ready (rs := [6]) (by kernel_rfl) (by simp) ?_
            refine AllReadyH.cons (at_list rfl) (fun K hK => ?_) AllReadyH.nil
            go_simp
            refine hK.out _ _ ?_ (fun hHeld => ?_)
            · exact keep6 (bput3 QQ.out leA _ _ _) HS0.out
            clear hK K
            try simp only [Act.put, List.setIfInBounds_toArray, List.set_cons_zero, List.set_cons_succ]
            refine wpAnyH_ready (rs := [7]) (by kernel_rfl) (by simp) ?_
            refine AllReadyH.cons (at_list rfl) (fun K hK => ?_) AllReadyH.nil
            go_simp
            refine hK.out _ _ ?_ (fun hHeld => ?_)
            · exact keep6 (bput3 (bput3 QQ.out leA _ _ _) leB _ _ _) HS0.out
            clear hK K
            try simp only [Act.put, List.setIfInBounds_toArray, List.set_cons_zero, List.set_cons_succ]
            refine wpAnyH_done (by kernel_rfl) ?_ _
            refine NoPanic.normal ?_
            go_wp2_with fail
            go_meet
            exact ⟨_, _, rfl, rfl, ((LA.out).put3 _ _ _).aside3 neB _ _ _, ((LB.out).aside3 neA _ _ _).put3 _ _ _, bput3 (bput3 QQ.out leA _ _ _) leB _ _ _⟩
          exact AllReadyH.nil
        refine AllReadyH.cons (at_list rfl) (fun K hK => ?_) ?_
        · go_simp
          refine hK.out _ _ ?_ (fun hHeld => ?_)
          · exact keep6 (bstep (bstep (Q1.out) (bnew _ (.cells #[.int .i64 0, .int .i64 0, .bool false] 24))) (bnew _ (.cells #[.int .i64 0, .int .i64 0, .bool false] 24))) HS0.out
          clear hK K
          try simp only [Act.put, List.setIfInBounds_toArray, List.set_cons_zero, List.set_cons_succ]
          refine wpAnyH_ready (rs := [3]) (by kernel_rfl) (by simp) ?_
          refine AllReadyH.cons (at_list rfl) (fun K hK => ?_) ?_
          · go_simp
            refine (OW1.out _).mono ?_
            rintro e w2 ⟨rfl, hb2⟩
            have Q2 := Lib.hid (bstep (bstep (bstep (Q1.out) (bnew _ (.cells #[.int .i64 0, .int .i64 0, .bool false] 24))) (bnew _ (.cells #[.int .i64 0, .int .i64 0, .bool false] 24))) hb2)
            have KB2 := Lib.hid (((Holds.fresh w1 24 #[.int .i64 0, .int .i64 0, .bool false] (g := w1.heap.size) (by simp)).laid (.cells #[.int .i64 0, .int .i64 0, .bool false] 24)).keptB hb2)
            have KA2 := Lib.hid ((Holds.fresh (w1.alloc (.cells #[.int .i64 0, .int .i64 0, .bool false] 24)) 24 #[.int .i64 0, .int .i64 0, .bool false] (g := w1.heap.size + 1) (by simp)).keptB hb2)
            go_wp2_with fail
            refine hK.out _ _ ?_ (fun hHeld => ?_)
            · exact keep6 Q2.out HS0.out
            clear hK K
            try simp only [Act.put, List.setIfInBounds_toArray, List.set_cons_zero, List.set_cons_succ]
            have LA := Lib.hid (KA2.out)
            have LB := Lib.hid (KB2.out)
            have QQ := Lib.hid (Q2.out)
            have sz1 := (Q1.out).size
            have sz2 := (Q2.out).size
            have sz3 := hb2.size
            try simp at sz3
            have leA : W0.heap.size ≤ w1.heap.size + 1 := by omega
            have leB : W0.heap.size ≤ w1.heap.size := by omega
            have neA : ¬ (w1.heap.size + 1 = w1.heap.size) := by first | omega | (have := hb1.size; simp at this; omega)
            have neB : ¬ (w1.heap.size = w1.heap.size + 1) := fun h => neA h.symm
            clear sz1 sz2 sz3
            have la0 := (LA.out).reads (i := 0) rfl; have la1 := (LA.out).reads (i := 1) rfl; have la2 := (LA.out).reads (i := 2) rfl
            have lb0 := (LB.out).reads (i := 0) rfl; have lb1 := (LB.out).reads (i := 1) rfl; have lb2 := (LB.out).reads (i := 2) rfl
            have la3 := (LA.out).open_ 0; have la4 := (LA.out).open_ 1; have la5 := (LA.out).open_ 2
            have lb3 := (LB.out).open_ 0; have lb4 := (LB.out).open_ 1; have lb5 := (LB.out).open_ 2
            refine wpAnyH_ready (rs := [6]) (by kernel_rfl) (by simp) ?_
            refine AllReadyH.cons (at_list rfl) (fun K hK => ?_) AllReadyH.nil
            go_simp
            refine hK.out _ _ ?_ (fun hHeld => ?_)
            · exact keep6 (bput3 QQ.out leA _ _ _) HS0.out
            clear hK K
            try simp only [Act.put, List.setIfInBounds_toArray, List.set_cons_zero, List.set_cons_succ]
            refine wpAnyH_ready (rs := [7]) (by kernel_rfl) (by simp) ?_
            refine AllReadyH.cons (at_list rfl) (fun K hK => ?_) AllReadyH.nil
            go_simp
            refine hK.out _ _ ?_ (fun hHeld => ?_)
            · exact keep6 (bput3 (bput3 QQ.out leA _ _ _) leB _ _ _) HS0.out
            clear hK K
            try simp only [Act.put, List.setIfInBounds_toArray, List.set_cons_zero, List.set_cons_succ]
            refine wpAnyH_done (by kernel_rfl) ?_ _
            refine NoPanic.normal ?_
            go_wp2_with fail
            go_meet
            exact ⟨_, _, rfl, rfl, ((LA.out).put3 _ _ _).aside3 neB _ _ _, ((LB.out).aside3 neA _ _ _).put3 _ _ _, bput3 (bput3 QQ.out leA _ _ _) leB _ _ _⟩
          exact AllReadyH.nil
        exact AllReadyH.nil
      exact AllReadyH.nil
    refine AllReadyH.cons (at_list rfl) (fun K hK => ?_) ?_
    · go_simp
      refine hK.out _ _ ?_ (fun hHeld => ?_)
      · exact keep6 (bdrew (bnew W0 (.cells #[.int .i64 0, .int .i64 0, .bool false] 24))) HS0.out
      clear hK K
      try simp only [Act.put, List.setIfInBounds_toArray, List.set_cons_zero, List.set_cons_succ]
      refine wpAnyH_ready (rs := [1, 5]) (by kernel_rfl) (by simp) ?_
      refine AllReadyH.cons (at_list rfl) (fun K hK => ?_) ?_
      · go_simp
        refine (OW0.out _).mono ?_
        rintro e w1 ⟨rfl, hb1⟩
        have Q1 := Lib.hid (bstep (bdrew (bnew W0 (.cells #[.int .i64 0, .int .i64 0, .bool false] 24))) hb1)
        have KA1 := Lib.hid (((Holds.fresh W0 24 #[.int .i64 0, .int .i64 0, .bool false] (g := W0.heap.size) (by simp)).drew).keptB hb1)
        go_wp2_with fail
        refine hK.out _ _ ?_ (fun hHeld => ?_)
        · exact keep6 Q1.out HS0.out
        clear hK K
        try simp only [Act.put, List.setIfInBounds_toArray, List.set_cons_zero, List.set_cons_succ]
        refine wpAnyH_ready (rs := [3, 5]) (by kernel_rfl) (by simp) ?_
        refine AllReadyH.cons (at_list rfl) (fun K hK => ?_) ?_
        · go_simp
          refine (OW1.out _).mono ?_
          rintro e w2 ⟨rfl, hb2⟩
          have Q2 := Lib.hid (bstep (Q1.out) hb2)
          have KA2 := Lib.hid ((KA1.out).keptB hb2)
          go_wp2_with fail
          refine hK.out _ _ ?_ (fun hHeld => ?_)
          · exact keep6 Q2.out HS0.out
          clear hK K
          try simp only [Act.put, List.setIfInBounds_toArray, List.set_cons_zero, List.set_cons_succ]
          refine wpAnyH_ready (rs := [5]) (by kernel_rfl) (by simp) ?_
          refine AllReadyH.cons (at_list rfl) (fun K hK => ?_) ?_
          · go_simp
            refine hK.out _ _ ?_ (fun hHeld => ?_)
            · exact keep6 (bstep (Q2.out) (bnew _ (.cells #[.int .i64 0, .int .i64 0, .bool false] 24))) HS0.out
            clear hK K
            try simp only [Act.put, List.setIfInBounds_toArray, List.set_cons_zero, List.set_cons_succ]
            have LA := Lib.hid ((KA2.out).laid (.cells #[.int .i64 0, .int .i64 0, .bool false] 24))
            have LB := Lib.hid (Holds.fresh w2 24 #[.int .i64 0, .int .i64 0, .bool false] (g := w2.heap.size) (by simp))
            have QQ := Lib.hid (bstep (Q2.out) (bnew _ (.cells #[.int .i64 0, .int .i64 0, .bool false] 24)))
            have sz1 := (Q1.out).size
            have sz2 := (Q2.out).size
            have sz3 := hb2.size
            try simp at sz3
            have leA : W0.heap.size ≤ W0.heap.size := by omega
            have leB : W0.heap.size ≤ w2.heap.size := by omega
            have neA : ¬ (W0.heap.size = w2.heap.size) := by first | omega | (have := hb1.size; simp at this; omega)
            have neB : ¬ (w2.heap.size = W0.heap.size) := fun h => neA h.symm
            clear sz1 sz2 sz3
            generalize (w2.alloc (.cells #[.int .i64 0, .int .i64 0, .bool false] 24)) = V at *
            have la0 := (LA.out).reads (i := 0) rfl; have la1 := (LA.out).reads (i := 1) rfl; have la2 := (LA.out).reads (i := 2) rfl
            have lb0 := (LB.out).reads (i := 0) rfl; have lb1 := (LB.out).reads (i := 1) rfl; have lb2 := (LB.out).reads (i := 2) rfl
            have la3 := (LA.out).open_ 0; have la4 := (LA.out).open_ 1; have la5 := (LA.out).open_ 2
            have lb3 := (LB.out).open_ 0; have lb4 := (LB.out).open_ 1; have lb5 := (LB.out).open_ 2
            refine wpAnyH_ready (rs := [6]) (by kernel_rfl) (by simp) ?_
            refine AllReadyH.cons (at_list rfl) (fun K hK => ?_) AllReadyH.nil
            go_simp
            refine hK.out _ _ ?_ (fun hHeld => ?_)
            · exact keep6 (bput3 QQ.out leA _ _ _) HS0.out
            clear hK K
            try simp only [Act.put, List.setIfInBounds_toArray, List.set_cons_zero, List.set_cons_succ]
            refine wpAnyH_ready (rs := [7]) (by kernel_rfl) (by simp) ?_
            refine AllReadyH.cons (at_list rfl) (fun K hK => ?_) AllReadyH.nil
            go_simp
            refine hK.out _ _ ?_ (fun hHeld => ?_)
            · exact keep6 (bput3 (bput3 QQ.out leA _ _ _) leB _ _ _) HS0.out
            clear hK K
            try simp only [Act.put, List.setIfInBounds_toArray, List.set_cons_zero, List.set_cons_succ]
            refine wpAnyH_done (by kernel_rfl) ?_ _
            refine NoPanic.normal ?_
            go_wp2_with fail
            go_meet
            exact ⟨_, _, rfl, rfl, ((LA.out).put3 _ _ _).aside3 neB _ _ _, ((LB.out).aside3 neA _ _ _).put3 _ _ _, bput3 (bput3 QQ.out leA _ _ _) leB _ _ _⟩
          exact AllReadyH.nil
        refine AllReadyH.cons (at_list rfl) (fun K hK => ?_) ?_
        · go_simp
          refine hK.out _ _ ?_ (fun hHeld => ?_)
          · exact keep6 (bstep (Q1.out) (bnew _ (.cells #[.int .i64 0, .int .i64 0, .bool false] 24))) HS0.out
          clear hK K
          try simp only [Act.put, List.setIfInBounds_toArray, List.set_cons_zero, List.set_cons_succ]
          refine wpAnyH_ready (rs := [3]) (by kernel_rfl) (by simp) ?_
          refine AllReadyH.cons (at_list rfl) (fun K hK => ?_) ?_
          · go_simp
            refine (OW1.out _).mono ?_
            rintro e w2 ⟨rfl, hb2⟩
            have Q2 := Lib.hid (bstep (bstep (Q1.out) (bnew _ (.cells #[.int .i64 0, .int .i64 0, .bool false] 24))) hb2)
            have KA2 := Lib.hid (((KA1.out).laid (.cells #[.int .i64 0, .int .i64 0, .bool false] 24)).keptB hb2)
            have KB2 := Lib.hid ((Holds.fresh w1 24 #[.int .i64 0, .int .i64 0, .bool false] (g := w1.heap.size) (by simp)).keptB hb2)
            go_wp2_with fail
            refine hK.out _ _ ?_ (fun hHeld => ?_)
            · exact keep6 Q2.out HS0.out
            clear hK K
            try simp only [Act.put, List.setIfInBounds_toArray, List.set_cons_zero, List.set_cons_succ]
            have LA := Lib.hid (KA2.out)
            have LB := Lib.hid (KB2.out)
            have QQ := Lib.hid (Q2.out)
            have sz1 := (Q1.out).size
            have sz2 := (Q2.out).size
            have sz3 := hb2.size
            try simp at sz3
            have leA : W0.heap.size ≤ W0.heap.size := by omega
            have leB : W0.heap.size ≤ w1.heap.size := by omega
            have neA : ¬ (W0.heap.size = w1.heap.size) := by first | omega | (have := hb1.size; simp at this; omega)
            have neB : ¬ (w1.heap.size = W0.heap.size) := fun h => neA h.symm
            clear sz1 sz2 sz3
            have la0 := (LA.out).reads (i := 0) rfl; have la1 := (LA.out).reads (i := 1) rfl; have la2 := (LA.out).reads (i := 2) rfl
            have lb0 := (LB.out).reads (i := 0) rfl; have lb1 := (LB.out).reads (i := 1) rfl; have lb2 := (LB.out).reads (i := 2) rfl
            have la3 := (LA.out).open_ 0; have la4 := (LA.out).open_ 1; have la5 := (LA.out).open_ 2
            have lb3 := (LB.out).open_ 0; have lb4 := (LB.out).open_ 1; have lb5 := (LB.out).open_ 2
            refine wpAnyH_ready (rs := [6]) (by kernel_rfl) (by simp) ?_
            refine AllReadyH.cons (at_list rfl) (fun K hK => ?_) AllReadyH.nil
            go_simp
            refine hK.out _ _ ?_ (fun hHeld => ?_)
            · exact keep6 (bput3 QQ.out leA _ _ _) HS0.out
            clear hK K
            try simp only [Act.put, List.setIfInBounds_toArray, List.set_cons_zero, List.set_cons_succ]
            refine wpAnyH_ready (rs := [7]) (by kernel_rfl) (by simp) ?_
            refine AllReadyH.cons (at_list rfl) (fun K hK => ?_) AllReadyH.nil
            go_simp
            refine hK.out _ _ ?_ (fun hHeld => ?_)
            · exact keep6 (bput3 (bput3 QQ.out leA _ _ _) leB _ _ _) HS0.out
            clear hK K
            try simp only [Act.put, List.setIfInBounds_toArray, List.set_cons_zero, List.set_cons_succ]
            refine wpAnyH_done (by kernel_rfl) ?_ _
            refine NoPanic.normal ?_
            go_wp2_with fail
            go_meet
            exact ⟨_, _, rfl, rfl, ((LA.out).put3 _ _ _).aside3 neB _ _ _, ((LB.out).aside3 neA _ _ _).put3 _ _ _, bput3 (bput3 QQ.out leA _ _ _) leB _ _ _⟩
          exact AllReadyH.nil
        exact AllReadyH.nil
      refine AllReadyH.cons (at_list rfl) (fun K hK => ?_) ?_
      · go_simp
        refine hK.out _ _ ?_ (fun hHeld => ?_)
        · exact keep6 (bdrew (bstep (bnew W0 (.cells #[.int .i64 0, .int .i64 0, .bool false] 24)) (bnew _ (.cells #[.int .i64 0, .int .i64 0, .bool false] 24)))) HS0.out
        clear hK K
        try simp only [Act.put, List.setIfInBounds_toArray, List.set_cons_zero, List.set_cons_succ]
        refine wpAnyH_ready (rs := [1]) (by kernel_rfl) (by simp) ?_
        refine AllReadyH.cons (at_list rfl) (fun K hK => ?_) ?_
        · go_simp
          refine (OW0.out _).mono ?_
          rintro e w1 ⟨rfl, hb1⟩
          have Q1 := Lib.hid (bstep (bdrew (bstep (bnew W0 (.cells #[.int .i64 0, .int .i64 0, .bool false] 24)) (bnew _ (.cells #[.int .i64 0, .int .i64 0, .bool false] 24)))) hb1)
          have KA1 := Lib.hid (((((Holds.fresh W0 24 #[.int .i64 0, .int .i64 0, .bool false] (g := W0.heap.size) (by simp))).laid (.cells #[.int .i64 0, .int .i64 0, .bool false] 24)).drew).keptB hb1)
          have KB1 := Lib.hid (((Holds.fresh (W0.alloc (.cells #[.int .i64 0, .int .i64 0, .bool false] 24)) 24 #[.int .i64 0, .int .i64 0, .bool false] (g := W0.heap.size + 1) (by simp)).drew).keptB hb1)
          go_wp2_with fail
          refine hK.out _ _ ?_ (fun hHeld => ?_)
          · exact keep6 Q1.out HS0.out
          clear hK K
          try simp only [Act.put, List.setIfInBounds_toArray, List.set_cons_zero, List.set_cons_succ]
          refine wpAnyH_ready (rs := [3]) (by kernel_rfl) (by simp) ?_
          refine AllReadyH.cons (at_list rfl) (fun K hK => ?_) ?_
          · go_simp
            refine (OW1.out _).mono ?_
            rintro e w2 ⟨rfl, hb2⟩
            have Q2 := Lib.hid (bstep (Q1.out) hb2)
            have KA2 := Lib.hid ((KA1.out).keptB hb2)
            have KB2 := Lib.hid ((KB1.out).keptB hb2)
            go_wp2_with fail
            refine hK.out _ _ ?_ (fun hHeld => ?_)
            · exact keep6 Q2.out HS0.out
            clear hK K
            try simp only [Act.put, List.setIfInBounds_toArray, List.set_cons_zero, List.set_cons_succ]
            have LA := Lib.hid (KA2.out)
            have LB := Lib.hid (KB2.out)
            have QQ := Lib.hid (Q2.out)
            have sz1 := (Q1.out).size
            have sz2 := (Q2.out).size
            have sz3 := hb2.size
            try simp at sz3
            have leA : W0.heap.size ≤ W0.heap.size := by omega
            have leB : W0.heap.size ≤ W0.heap.size + 1 := by omega
            have neA : ¬ (W0.heap.size = W0.heap.size + 1) := by first | omega | (have := hb1.size; simp at this; omega)
            have neB : ¬ (W0.heap.size + 1 = W0.heap.size) := fun h => neA h.symm
            clear sz1 sz2 sz3
            have la0 := (LA.out).reads (i := 0) rfl; have la1 := (LA.out).reads (i := 1) rfl; have la2 := (LA.out).reads (i := 2) rfl
            have lb0 := (LB.out).reads (i := 0) rfl; have lb1 := (LB.out).reads (i := 1) rfl; have lb2 := (LB.out).reads (i := 2) rfl
            have la3 := (LA.out).open_ 0; have la4 := (LA.out).open_ 1; have la5 := (LA.out).open_ 2
            have lb3 := (LB.out).open_ 0; have lb4 := (LB.out).open_ 1; have lb5 := (LB.out).open_ 2
            refine wpAnyH_ready (rs := [6]) (by kernel_rfl) (by simp) ?_
            refine AllReadyH.cons (at_list rfl) (fun K hK => ?_) AllReadyH.nil
            go_simp
            refine hK.out _ _ ?_ (fun hHeld => ?_)
            · exact keep6 (bput3 QQ.out leA _ _ _) HS0.out
            clear hK K
            try simp only [Act.put, List.setIfInBounds_toArray, List.set_cons_zero, List.set_cons_succ]
            refine wpAnyH_ready (rs := [7]) (by kernel_rfl) (by simp) ?_
            refine AllReadyH.cons (at_list rfl) (fun K hK => ?_) AllReadyH.nil
            go_simp
            refine hK.out _ _ ?_ (fun hHeld => ?_)
            · exact keep6 (bput3 (bput3 QQ.out leA _ _ _) leB _ _ _) HS0.out
            clear hK K
            try simp only [Act.put, List.setIfInBounds_toArray, List.set_cons_zero, List.set_cons_succ]
            refine wpAnyH_done (by kernel_rfl) ?_ _
            refine NoPanic.normal ?_
            go_wp2_with fail
            go_meet
            exact ⟨_, _, rfl, rfl, ((LA.out).put3 _ _ _).aside3 neB _ _ _, ((LB.out).aside3 neA _ _ _).put3 _ _ _, bput3 (bput3 QQ.out leA _ _ _) leB _ _ _⟩
          exact AllReadyH.nil
        exact AllReadyH.nil
      exact AllReadyH.nil
    refine AllReadyH.cons (at_list rfl) (fun K hK => ?_) ?_
    · go_simp
      refine hK.out _ _ ?_ (fun hHeld => ?_)
      · exact keep6 (bdrew (bnew W0 (.cells #[.int .i64 0, .int .i64 0, .bool false] 24))) HS0.out
      clear hK K
      try simp only [Act.put, List.setIfInBounds_toArray, List.set_cons_zero, List.set_cons_succ]
      refine wpAnyH_ready (rs := [1, 4]) (by kernel_rfl) (by simp) ?_
      refine AllReadyH.cons (at_list rfl) (fun K hK => ?_) ?_
      · go_simp
        refine (OW0.out _).mono ?_
        rintro e w1 ⟨rfl, hb1⟩
        have Q1 := Lib.hid (bstep (bdrew (bnew W0 (.cells #[.int .i64 0, .int .i64 0, .bool false] 24))) hb1)
        have KB1 := Lib.hid (((Holds.fresh W0 24 #[.int .i64 0, .int .i64 0, .bool false] (g := W0.heap.size) (by simp)).drew).keptB hb1)
        go_wp2_with fail
        refine hK.out _ _ ?_ (fun hHeld => ?_)
        · exact keep6 Q1.out HS0.out
        clear hK K
        try simp only [Act.put, List.setIfInBounds_toArray, List.set_cons_zero, List.set_cons_succ]
        refine wpAnyH_ready (rs := [3, 4]) (by kernel_rfl) (by simp) ?_
        refine AllReadyH.cons (at_list rfl) (fun K hK => ?_) ?_
        · go_simp
          refine (OW1.out _).mono ?_
          rintro e w2 ⟨rfl, hb2⟩
          have Q2 := Lib.hid (bstep (Q1.out) hb2)
          have KB2 := Lib.hid ((KB1.out).keptB hb2)
          go_wp2_with fail
          refine hK.out _ _ ?_ (fun hHeld => ?_)
          · exact keep6 Q2.out HS0.out
          clear hK K
          try simp only [Act.put, List.setIfInBounds_toArray, List.set_cons_zero, List.set_cons_succ]
          refine wpAnyH_ready (rs := [4]) (by kernel_rfl) (by simp) ?_
          refine AllReadyH.cons (at_list rfl) (fun K hK => ?_) ?_
          · go_simp
            refine hK.out _ _ ?_ (fun hHeld => ?_)
            · exact keep6 (bstep (Q2.out) (bnew _ (.cells #[.int .i64 0, .int .i64 0, .bool false] 24))) HS0.out
            clear hK K
            try simp only [Act.put, List.setIfInBounds_toArray, List.set_cons_zero, List.set_cons_succ]
            have LA := Lib.hid (Holds.fresh w2 24 #[.int .i64 0, .int .i64 0, .bool false] (g := w2.heap.size) (by simp))
            have LB := Lib.hid ((KB2.out).laid (.cells #[.int .i64 0, .int .i64 0, .bool false] 24))
            have QQ := Lib.hid (bstep (Q2.out) (bnew _ (.cells #[.int .i64 0, .int .i64 0, .bool false] 24)))
            have sz1 := (Q1.out).size
            have sz2 := (Q2.out).size
            have sz3 := hb2.size
            try simp at sz3
            have leA : W0.heap.size ≤ w2.heap.size := by omega
            have leB : W0.heap.size ≤ W0.heap.size := by omega
            have neA : ¬ (w2.heap.size = W0.heap.size) := by first | omega | (have := hb1.size; simp at this; omega)
            have neB : ¬ (W0.heap.size = w2.heap.size) := fun h => neA h.symm
            clear sz1 sz2 sz3
            generalize (w2.alloc (.cells #[.int .i64 0, .int .i64 0, .bool false] 24)) = V at *
            have la0 := (LA.out).reads (i := 0) rfl; have la1 := (LA.out).reads (i := 1) rfl; have la2 := (LA.out).reads (i := 2) rfl
            have lb0 := (LB.out).reads (i := 0) rfl; have lb1 := (LB.out).reads (i := 1) rfl; have lb2 := (LB.out).reads (i := 2) rfl
            have la3 := (LA.out).open_ 0; have la4 := (LA.out).open_ 1; have la5 := (LA.out).open_ 2
            have lb3 := (LB.out).open_ 0; have lb4 := (LB.out).open_ 1; have lb5 := (LB.out).open_ 2
            refine wpAnyH_ready (rs := [6]) (by kernel_rfl) (by simp) ?_
            refine AllReadyH.cons (at_list rfl) (fun K hK => ?_) AllReadyH.nil
            go_simp
            refine hK.out _ _ ?_ (fun hHeld => ?_)
            · exact keep6 (bput3 QQ.out leA _ _ _) HS0.out
            clear hK K
            try simp only [Act.put, List.setIfInBounds_toArray, List.set_cons_zero, List.set_cons_succ]
            refine wpAnyH_ready (rs := [7]) (by kernel_rfl) (by simp) ?_
            refine AllReadyH.cons (at_list rfl) (fun K hK => ?_) AllReadyH.nil
            go_simp
            refine hK.out _ _ ?_ (fun hHeld => ?_)
            · exact keep6 (bput3 (bput3 QQ.out leA _ _ _) leB _ _ _) HS0.out
            clear hK K
            try simp only [Act.put, List.setIfInBounds_toArray, List.set_cons_zero, List.set_cons_succ]
            refine wpAnyH_done (by kernel_rfl) ?_ _
            refine NoPanic.normal ?_
            go_wp2_with fail
            go_meet
            exact ⟨_, _, rfl, rfl, ((LA.out).put3 _ _ _).aside3 neB _ _ _, ((LB.out).aside3 neA _ _ _).put3 _ _ _, bput3 (bput3 QQ.out leA _ _ _) leB _ _ _⟩
          exact AllReadyH.nil
        refine AllReadyH.cons (at_list rfl) (fun K hK => ?_) ?_
        · go_simp
          refine hK.out _ _ ?_ (fun hHeld => ?_)
          · exact keep6 (bstep (Q1.out) (bnew _ (.cells #[.int .i64 0, .int .i64 0, .bool false] 24))) HS0.out
          clear hK K
          try simp only [Act.put, List.setIfInBounds_toArray, List.set_cons_zero, List.set_cons_succ]
          refine wpAnyH_ready (rs := [3]) (by kernel_rfl) (by simp) ?_
          refine AllReadyH.cons (at_list rfl) (fun K hK => ?_) ?_
          · go_simp
            refine (OW1.out _).mono ?_
            rintro e w2 ⟨rfl, hb2⟩
            have Q2 := Lib.hid (bstep (bstep (Q1.out) (bnew _ (.cells #[.int .i64 0, .int .i64 0, .bool false] 24))) hb2)
            have KB2 := Lib.hid (((KB1.out).laid (.cells #[.int .i64 0, .int .i64 0, .bool false] 24)).keptB hb2)
            have KA2 := Lib.hid ((Holds.fresh w1 24 #[.int .i64 0, .int .i64 0, .bool false] (g := w1.heap.size) (by simp)).keptB hb2)
            go_wp2_with fail
            refine hK.out _ _ ?_ (fun hHeld => ?_)
            · exact keep6 Q2.out HS0.out
            clear hK K
            try simp only [Act.put, List.setIfInBounds_toArray, List.set_cons_zero, List.set_cons_succ]
            have LA := Lib.hid (KA2.out)
            have LB := Lib.hid (KB2.out)
            have QQ := Lib.hid (Q2.out)
            have sz1 := (Q1.out).size
            have sz2 := (Q2.out).size
            have sz3 := hb2.size
            try simp at sz3
            have leA : W0.heap.size ≤ w1.heap.size := by omega
            have leB : W0.heap.size ≤ W0.heap.size := by omega
            have neA : ¬ (w1.heap.size = W0.heap.size) := by first | omega | (have := hb1.size; simp at this; omega)
            have neB : ¬ (W0.heap.size = w1.heap.size) := fun h => neA h.symm
            clear sz1 sz2 sz3
            have la0 := (LA.out).reads (i := 0) rfl; have la1 := (LA.out).reads (i := 1) rfl; have la2 := (LA.out).reads (i := 2) rfl
            have lb0 := (LB.out).reads (i := 0) rfl; have lb1 := (LB.out).reads (i := 1) rfl; have lb2 := (LB.out).reads (i := 2) rfl
            have la3 := (LA.out).open_ 0; have la4 := (LA.out).open_ 1; have la5 := (LA.out).open_ 2
            have lb3 := (LB.out).open_ 0; have lb4 := (LB.out).open_ 1; have lb5 := (LB.out).open_ 2
            refine wpAnyH_ready (rs := [6]) (by kernel_rfl) (by simp) ?_
            refine AllReadyH.cons (at_list rfl) (fun K hK => ?_) AllReadyH.nil
            go_simp
            refine hK.out _ _ ?_ (fun hHeld => ?_)
            · exact keep6 (bput3 QQ.out leA _ _ _) HS0.out
            clear hK K
            try simp only [Act.put, List.setIfInBounds_toArray, List.set_cons_zero, List.set_cons_succ]
            refine wpAnyH_ready (rs := [7]) (by kernel_rfl) (by simp) ?_
            refine AllReadyH.cons (at_list rfl) (fun K hK => ?_) AllReadyH.nil
            go_simp
            refine hK.out _ _ ?_ (fun hHeld => ?_)
            · exact keep6 (bput3 (bput3 QQ.out leA _ _ _) leB _ _ _) HS0.out
            clear hK K
            try simp only [Act.put, List.setIfInBounds_toArray, List.set_cons_zero, List.set_cons_succ]
            refine wpAnyH_done (by kernel_rfl) ?_ _
            refine NoPanic.normal ?_
            go_wp2_with fail
            go_meet
            exact ⟨_, _, rfl, rfl, ((LA.out).put3 _ _ _).aside3 neB _ _ _, ((LB.out).aside3 neA _ _ _).put3 _ _ _, bput3 (bput3 QQ.out leA _ _ _) leB _ _ _⟩
          exact AllReadyH.nil
        exact AllReadyH.nil
      refine AllReadyH.cons (at_list rfl) (fun K hK => ?_) ?_
      · go_simp
        refine hK.out _ _ ?_ (fun hHeld => ?_)
        · exact keep6 (bdrew (bstep (bnew W0 (.cells #[.int .i64 0, .int .i64 0, .bool false] 24)) (bnew _ (.cells #[.int .i64 0, .int .i64 0, .bool false] 24)))) HS0.out
        clear hK K
        try simp only [Act.put, List.setIfInBounds_toArray, List.set_cons_zero, List.set_cons_succ]
        refine wpAnyH_ready (rs := [1]) (by kernel_rfl) (by simp) ?_
        refine AllReadyH.cons (at_list rfl) (fun K hK => ?_) ?_
        · go_simp
          refine (OW0.out _).mono ?_
          rintro e w1 ⟨rfl, hb1⟩
          have Q1 := Lib.hid (bstep (bdrew (bstep (bnew W0 (.cells #[.int .i64 0, .int .i64 0, .bool false] 24)) (bnew _ (.cells #[.int .i64 0, .int .i64 0, .bool false] 24)))) hb1)
          have KB1 := Lib.hid (((((Holds.fresh W0 24 #[.int .i64 0, .int .i64 0, .bool false] (g := W0.heap.size) (by simp))).laid (.cells #[.int .i64 0, .int .i64 0, .bool false] 24)).drew).keptB hb1)
          have KA1 := Lib.hid (((Holds.fresh (W0.alloc (.cells #[.int .i64 0, .int .i64 0, .bool false] 24)) 24 #[.int .i64 0, .int .i64 0, .bool false] (g := W0.heap.size + 1) (by simp)).drew).keptB hb1)
          go_wp2_with fail
          refine hK.out _ _ ?_ (fun hHeld => ?_)
          · exact keep6 Q1.out HS0.out
          clear hK K
          try simp only [Act.put, List.setIfInBounds_toArray, List.set_cons_zero, List.set_cons_succ]
          refine wpAnyH_ready (rs := [3]) (by kernel_rfl) (by simp) ?_
          refine AllReadyH.cons (at_list rfl) (fun K hK => ?_) ?_
          · go_simp
            refine (OW1.out _).mono ?_
            rintro e w2 ⟨rfl, hb2⟩
            have Q2 := Lib.hid (bstep (Q1.out) hb2)
            have KB2 := Lib.hid ((KB1.out).keptB hb2)
            have KA2 := Lib.hid ((KA1.out).keptB hb2)
            go_wp2_with fail
            refine hK.out _ _ ?_ (fun hHeld => ?_)
            · exact keep6 Q2.out HS0.out
            clear hK K
            try simp only [Act.put, List.setIfInBounds_toArray, List.set_cons_zero, List.set_cons_succ]
            have LA := Lib.hid (KA2.out)
            have LB := Lib.hid (KB2.out)
            have QQ := Lib.hid (Q2.out)
            have sz1 := (Q1.out).size
            have sz2 := (Q2.out).size
            have sz3 := hb2.size
            try simp at sz3
            have leA : W0.heap.size ≤ W0.heap.size + 1 := by omega
            have leB : W0.heap.size ≤ W0.heap.size := by omega
            have neA : ¬ (W0.heap.size + 1 = W0.heap.size) := by first | omega | (have := hb1.size; simp at this; omega)
            have neB : ¬ (W0.heap.size = W0.heap.size + 1) := fun h => neA h.symm
            clear sz1 sz2 sz3
            have la0 := (LA.out).reads (i := 0) rfl; have la1 := (LA.out).reads (i := 1) rfl; have la2 := (LA.out).reads (i := 2) rfl
            have lb0 := (LB.out).reads (i := 0) rfl; have lb1 := (LB.out).reads (i := 1) rfl; have lb2 := (LB.out).reads (i := 2) rfl
            have la3 := (LA.out).open_ 0; have la4 := (LA.out).open_ 1; have la5 := (LA.out).open_ 2
            have lb3 := (LB.out).open_ 0; have lb4 := (LB.out).open_ 1; have lb5 := (LB.out).open_ 2
            refine wpAnyH_ready (rs := [6]) (by kernel_rfl) (by simp) ?_
            refine AllReadyH.cons (at_list rfl) (fun K hK => ?_) AllReadyH.nil
            go_simp
            refine hK.out _ _ ?_ (fun hHeld => ?_)
            · exact keep6 (bput3 QQ.out leA _ _ _) HS0.out
            clear hK K
            try simp only [Act.put, List.setIfInBounds_toArray, List.set_cons_zero, List.set_cons_succ]
            refine wpAnyH_ready (rs := [7]) (by kernel_rfl) (by simp) ?_
            refine AllReadyH.cons (at_list rfl) (fun K hK => ?_) AllReadyH.nil
            go_simp
            refine hK.out _ _ ?_ (fun hHeld => ?_)
            · exact keep6 (bput3 (bput3 QQ.out leA _ _ _) leB _ _ _) HS0.out
            clear hK K
            try simp only [Act.put, List.setIfInBounds_toArray, List.set_cons_zero, List.set_cons_succ]
            refine wpAnyH_done (by kernel_rfl) ?_ _
            refine NoPanic.normal ?_
            go_wp2_with fail
            go_meet
            exact ⟨_, _, rfl, rfl, ((LA.out).put3 _ _ _).aside3 neB _ _ _, ((LB.out).aside3 neA _ _ _).put3 _ _ _, bput3 (bput3 QQ.out leA _ _ _) leB _ _ _⟩
          exact AllReadyH.nil
        exact AllReadyH.nil
      exact AllReadyH.nil
    exact AllReadyH.nil
  case rest =>
    obtain ⟨g7, g8, rfl, rfl, kA, kB, hb⟩ := hcut
    have K7 := Lib.hid kA
    have K8 := Lib.hid kB
    replace K0 := Lib.hid ((K0.out).keptB hb)
    replace K1 := Lib.hid ((K1.out).keptB hb)
    replace HB := Lib.hid (bstep HB.out hb)
    clear kA kB hb HS0
    clear x1_0 x1_1 x1_2 x2_0 x2_1 x2_2
    go_wp2_with fail
    have x3_0 := (K7.out).reads (i := 0) rfl
    have x3_1 := (K7.out).reads (i := 1) rfl
    have x3_2 := (K7.out).reads (i := 2) rfl
    have x4_0 := (K8.out).reads (i := 0) rfl
    have x4_1 := (K8.out).reads (i := 1) rfl
    have x4_2 := (K8.out).reads (i := 2) rfl
    have x5_0 := (K0.out).reads (i := 0) rfl
    have x5_1 := (K0.out).reads (i := 1) rfl
    have x5_2 := (K0.out).reads (i := 2) rfl
    have x6_0 := (K1.out).reads (i := 0) rfl
    have x6_1 := (K1.out).reads (i := 1) rfl
    have x6_2 := (K1.out).reads (i := 2) rfl
    go_region_held3 (fun v => v.cell? ⟨g7, 0, none⟩ = some (.int .i64 s.lo) ∧ v.cell? ⟨g7, 1, none⟩ = some (.int .i64 s.hi) ∧ v.cell? ⟨g7, 2, none⟩ = some (.bool s.k) ∧ v.cell? ⟨g8, 0, none⟩ = some (.int .i64 o.lo) ∧ v.cell? ⟨g8, 1, none⟩ = some (.int .i64 o.hi) ∧ v.cell? ⟨g8, 2, none⟩ = some (.bool o.k) ∧ v.cell? ⟨w.heap.size, 0, none⟩ = some (.int .i64 s.lo) ∧ v.cell? ⟨w.heap.size, 1, none⟩ = some (.int .i64 s.hi) ∧ v.cell? ⟨w.heap.size, 2, none⟩ = some (.bool s.k) ∧ v.cell? ⟨w.heap.size + 1, 0, none⟩ = some (.int .i64 o.lo) ∧ v.cell? ⟨w.heap.size + 1, 1, none⟩ = some (.int .i64 o.hi) ∧ v.cell? ⟨w.heap.size + 1, 2, none⟩ = some (.bool o.k))
      (first | (with_reducible exact keep12 (by assumption) (by assumption)) | (with_reducible exact keep12 (bnew _ _) (by assumption)) | (exact ⟨x3_0, x3_1, x3_2, x4_0, x4_1, x4_2, x5_0, x5_1, x5_2, x6_0, x6_1, x6_2⟩) | go_keep)
      (first
        | (go_at_call 13; (with_reducible refine (PX1.out _).mono ?_); rintro e v7_0 ⟨rfl, hv7_0⟩)
        | (go_at_call 14; (with_reducible refine (RX1.out _).mono ?_); rintro e v7_1 ⟨rfl, hv7_1⟩)
        | (go_at_call 12; (with_reducible refine (SX1.out _).mono ?_); rintro e v7_2 ⟨rfl, hv7_2⟩)
        | (go_at_call 15; (with_reducible refine (PX2.out _).mono ?_); rintro e v7_3 ⟨rfl, hv7_3⟩)
        | (go_at_call 16; (with_reducible refine (RX2.out _).mono ?_); rintro e v7_4 ⟨rfl, hv7_4⟩)
        | (go_at_call 12; (with_reducible refine (SX2.out _).mono ?_); rintro e v7_5 ⟨rfl, hv7_5⟩)
        | (go_at_call 17; (with_reducible refine (PX3.out _).mono ?_); rintro e v7_6 ⟨rfl, hv7_6⟩)
        | (go_at_call 18; (with_reducible refine (RX3.out _).mono ?_); rintro e v7_7 ⟨rfl, hv7_7⟩)
        | (go_at_call 12; (with_reducible refine (SX3.out _).mono ?_); rintro e v7_8 ⟨rfl, hv7_8⟩)
        | (go_at_call 19; (with_reducible refine (PX4.out _).mono ?_); rintro e v7_9 ⟨rfl, hv7_9⟩)
        | (go_at_call 20; (with_reducible refine (RX4.out _).mono ?_); rintro e v7_10 ⟨rfl, hv7_10⟩)
        | (go_at_call 12; (with_reducible refine (SX4.out _).mono ?_); rintro e v7_11 ⟨rfl, hv7_11⟩))
    have HV8 := Lib.hid (bstep (bstep (bstep (bstep (bstep (bstep (bstep (bstep (bstep (bstep (bstep (bstep (bdrew (Below.refl (wc).heap.size wc)) hv7_0) hv7_1) hv7_2) hv7_3) hv7_4) hv7_5) hv7_6) hv7_7) hv7_8) hv7_9) hv7_10) hv7_11)
    clear x3_0 x3_1 x3_2 x4_0 x4_1 x4_2 x5_0 x5_1 x5_2 x6_0 x6_1 x6_2
    replace K0 := Lib.hid ((K0.out).keptB HV8.out)
    replace K1 := Lib.hid ((K1.out).keptB HV8.out)
    replace K7 := Lib.hid ((K7.out).keptB HV8.out)
    replace K8 := Lib.hid ((K8.out).keptB HV8.out)
    replace HB := Lib.hid (bstep HB.out HV8.out)
    clear hv7_0 hv7_1 hv7_2 hv7_3 hv7_4 hv7_5 hv7_6 hv7_7 hv7_8 hv7_9 hv7_10 hv7_11 HV8
    have x9_0 := (K7.out).reads (i := 0) rfl
    have x9_1 := (K7.out).reads (i := 1) rfl
    have x9_2 := (K7.out).reads (i := 2) rfl
    go_wp2_with fail
    refine (PD.out _).mono ?_
    rintro e w10 ⟨rfl, hw10⟩
    clear x9_0 x9_1 x9_2
    replace K0 := Lib.hid ((K0.out).keptB hw10)
    replace K1 := Lib.hid ((K1.out).keptB hw10)
    replace K7 := Lib.hid ((K7.out).keptB hw10)
    replace K8 := Lib.hid ((K8.out).keptB hw10)
    replace HB := Lib.hid (bstep HB.out hw10)
    clear hw10
    have x11_0 := (K0.out).reads (i := 0) rfl
    have x11_1 := (K0.out).reads (i := 1) rfl
    have x11_2 := (K0.out).reads (i := 2) rfl
    go_wp2_with fail
    refine (RD.out _).mono ?_
    rintro e w12 ⟨rfl, hw12⟩
    clear x11_0 x11_1 x11_2
    replace K0 := Lib.hid ((K0.out).keptB hw12)
    replace K1 := Lib.hid ((K1.out).keptB hw12)
    replace K7 := Lib.hid ((K7.out).keptB hw12)
    replace K8 := Lib.hid ((K8.out).keptB hw12)
    replace HB := Lib.hid (bstep HB.out hw12)
    clear hw12
    go_wp2_with fail
    have x13_0 := (K7.out).reads (i := 0) rfl
    have x13_1 := (K7.out).reads (i := 1) rfl
    have x13_2 := (K7.out).reads (i := 2) rfl
    have x14_0 := (K8.out).reads (i := 0) rfl
    have x14_1 := (K8.out).reads (i := 1) rfl
    have x14_2 := (K8.out).reads (i := 2) rfl
    have x15_0 := (K0.out).reads (i := 0) rfl
    have x15_1 := (K0.out).reads (i := 1) rfl
    have x15_2 := (K0.out).reads (i := 2) rfl
    have x16_0 := (K1.out).reads (i := 0) rfl
    have x16_1 := (K1.out).reads (i := 1) rfl
    have x16_2 := (K1.out).reads (i := 2) rfl
    go_region_held3 (fun v => v.cell? ⟨g7, 0, none⟩ = some (.int .i64 s.lo) ∧ v.cell? ⟨g7, 1, none⟩ = some (.int .i64 s.hi) ∧ v.cell? ⟨g7, 2, none⟩ = some (.bool s.k) ∧ v.cell? ⟨g8, 0, none⟩ = some (.int .i64 o.lo) ∧ v.cell? ⟨g8, 1, none⟩ = some (.int .i64 o.hi) ∧ v.cell? ⟨g8, 2, none⟩ = some (.bool o.k) ∧ v.cell? ⟨w.heap.size, 0, none⟩ = some (.int .i64 s.lo) ∧ v.cell? ⟨w.heap.size, 1, none⟩ = some (.int .i64 s.hi) ∧ v.cell? ⟨w.heap.size, 2, none⟩ = some (.bool s.k) ∧ v.cell? ⟨w.heap.size + 1, 0, none⟩ = some (.int .i64 o.lo) ∧ v.cell? ⟨w.heap.size + 1, 1, none⟩ = some (.int .i64 o.hi) ∧ v.cell? ⟨w.heap.size + 1, 2, none⟩ = some (.bool o.k))
      (first | (with_reducible exact keep12 (by assumption) (by assumption)) | (with_reducible exact keep12 (bnew _ _) (by assumption)) | (exact ⟨x13_0, x13_1, x13_2, x14_0, x14_1, x14_2, x15_0, x15_1, x15_2, x16_0, x16_1, x16_2⟩) | go_keep)
      (first
        | (go_at_call 23; (with_reducible refine (alive3_any _).mono ?_); rintro e v17_0 ⟨rfl, hv17_0⟩)
        | (go_at_call 24; (with_reducible refine (PX5.out _).mono ?_); rintro e v17_1 ⟨rfl, hv17_1⟩)
        | (go_at_call 25; (with_reducible refine (RO.out _).mono ?_); rintro e v17_2 ⟨rfl, hv17_2⟩)
        | (go_at_call 14; (with_reducible refine (RX5.out _).mono ?_); rintro e v17_3 ⟨rfl, hv17_3⟩)
        | (go_at_call 12; (with_reducible refine (SX5.out _).mono ?_); rintro e v17_4 ⟨rfl, hv17_4⟩)
        | (go_at_call 26; (with_reducible refine (PH.out _).mono ?_); rintro e v17_5 ⟨rfl, hv17_5⟩)
        | (go_at_call 27; (with_reducible refine (RH.out _).mono ?_); rintro e v17_6 ⟨rfl, hv17_6⟩)
        | (go_at_call 28; (with_reducible refine (PW.out _).mono ?_); rintro e v17_7 ⟨rfl, hv17_7⟩)
        | (go_at_call 29; (with_reducible refine (RW.out _).mono ?_); rintro e v17_8 ⟨rfl, hv17_8⟩)
        | (go_at_call 30; (with_reducible refine (PR.out _).mono ?_); rintro e v17_9 ⟨rfl, hv17_9⟩)
        | (go_at_call 31; (with_reducible refine (RR.out _).mono ?_); rintro e v17_10 ⟨rfl, hv17_10⟩))
    have HV18 := Lib.hid (bstep (bstep (bstep (bstep (bstep (bstep (bstep (bstep (bstep (bstep (bstep (bdrew (Below.refl (w12).heap.size w12)) hv17_0) hv17_1) hv17_2) hv17_3) hv17_4) hv17_5) hv17_6) hv17_7) hv17_8) hv17_9) hv17_10)
    clear x13_0 x13_1 x13_2 x14_0 x14_1 x14_2 x15_0 x15_1 x15_2 x16_0 x16_1 x16_2
    replace K0 := Lib.hid ((K0.out).keptB HV18.out)
    replace K1 := Lib.hid ((K1.out).keptB HV18.out)
    replace K7 := Lib.hid ((K7.out).keptB HV18.out)
    replace K8 := Lib.hid ((K8.out).keptB HV18.out)
    replace HB := Lib.hid (bstep HB.out HV18.out)
    clear hv17_0 hv17_1 hv17_2 hv17_3 hv17_4 hv17_5 hv17_6 hv17_7 hv17_8 hv17_9 hv17_10 HV18
    go_wp2
    go_ret
    exact ⟨rfl, HB.out⟩

end Go.Proofs.Ytcjfiipcmaegnaa
