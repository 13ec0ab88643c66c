/- The walk over the law SpanBack. -/
import Derived.Test.YtcjfiipcmaegnaaSpanLawWords
namespace Go.Proofs.Ytcjfiipcmaegnaa
open Go.RowKit
set_option linter.unusedVariables false

set_option maxHeartbeats 4000000 in
theorem spanback_walk (s o : Sp) (n : Int) (w : World) :
    Calls Try.prog 9 #[.agg #[.int .i64 (s).lo, .int .i64 (s).hi, .bool (s).k], .agg #[.int .i64 (o).lo, .int .i64 (o).hi, .bool (o).k], .int .i64 n] w fun e w' => e = .returned (.bool true) ∧ Below w.heap.size w w' := by
  obtain ⟨X, HX⟩ : ∃ X, Hid (shiftS s n = X) := ⟨_, Lib.hid rfl⟩
  obtain ⟨Y, HY⟩ : ∃ Y, Hid (addS s o = Y) := ⟨_, Lib.hid rfl⟩
  obtain ⟨Z, HZ⟩ : ∃ Z, Hid (subS Y o = Z) := ⟨_, Lib.hid rfl⟩
  have CX := Lib.hid (shift3_any s n)
  rw [HX.out] at CX
  have CY := Lib.hid (add3_any s o)
  rw [HY.out] at CY
  have CZ := Lib.hid (sub3_any Y o)
  rw [HZ.out] at CZ
  have hXk := Lib.hid (fun h : X.k = true => back_shift (s := s) (n := n) (by rw [HX.out]; exact h))
  rw [HX.out] at hXk
  have hYk := Lib.hid (fun h : Y.k = true => back_add (s := s) (o := o) (by rw [HY.out]; exact h))
  rw [HY.out, HZ.out] at hYk
  have CW := Lib.hid (within3_any s Z)
  have CB := Lib.hid (shift3_any X (-n))
  have heq := eql_span
  have hne := neq_span
  have hrf := eqS_refl s
  clear HX HY HZ
  have OW0 := Lib.hid (own3_any s)
  have OW1 := Lib.hid (own3_any o)
  have K0 := Lib.hid ((Holds.fresh w 23 #[.int .i64 s.lo, .int .i64 s.hi, .bool s.k] rfl).laid (.cells #[.int .i64 o.lo, .int .i64 o.hi, .bool o.k] 23))
  have K1 := Lib.hid (Holds.fresh (w.alloc (.cells #[.int .i64 s.lo, .int .i64 s.hi, .bool s.k] 23)) 23 #[.int .i64 o.lo, .int .i64 o.hi, .bool o.k] (g := w.heap.size + 1) (by simp))
  have HB := Lib.hid (bstep (bnew w (.cells #[.int .i64 s.lo, .int .i64 s.hi, .bool s.k] 23)) (bnew _ (.cells #[.int .i64 o.lo, .int .i64 o.hi, .bool o.k] 23)))
  go_enter Try.func9, Try.ntmps9
  go_upto_region 1 with fail
  generalize ((w.alloc (.cells #[.int .i64 s.lo, .int .i64 s.hi, .bool s.k] 23)).alloc (.cells #[.int .i64 o.lo, .int .i64 o.hi, .bool o.k] 23)) = W0 at *
  have d00 := (K0.out).reads (i := 0) rfl; have d01 := (K0.out).reads (i := 1) rfl; have d02 := (K0.out).reads (i := 2) rfl
  have d10 := (K1.out).reads (i := 0) rfl; have d11 := (K1.out).reads (i := 1) rfl; have d12 := (K1.out).reads (i := 2) rfl
  have HS0 := Lib.hid (show W0.cell? ⟨w.heap.size, 0, none⟩ = some (.int .i64 s.lo) ∧ W0.cell? ⟨w.heap.size, 1, none⟩ = some (.int .i64 s.hi) ∧ W0.cell? ⟨w.heap.size, 2, none⟩ = some (.bool s.k) ∧ W0.cell? ⟨w.heap.size + 1, 0, none⟩ = some (.int .i64 o.lo) ∧ W0.cell? ⟨w.heap.size + 1, 1, none⟩ = some (.int .i64 o.hi) ∧ W0.cell? ⟨w.heap.size + 1, 2, none⟩ = some (.bool o.k) from ⟨d00, d01, d02, d10, d11, d12⟩)
  go_cut [7, 8] (fun p q wx => Pair s o W0 p q wx)
  case first =>
    refine wp_region_noPanic ?_
    refine wp_region_held_drew (S := fun v => v.cell? ⟨w.heap.size, 0, none⟩ = some (.int .i64 s.lo) ∧ v.cell? ⟨w.heap.size, 1, none⟩ = some (.int .i64 s.hi) ∧ v.cell? ⟨w.heap.size, 2, none⟩ = some (.bool s.k) ∧ v.cell? ⟨w.heap.size + 1, 0, none⟩ = some (.int .i64 o.lo) ∧ v.cell? ⟨w.heap.size + 1, 1, none⟩ = some (.int .i64 o.hi) ∧ v.cell? ⟨w.heap.size + 1, 2, none⟩ = some (.bool o.k)) (by kernel_rfl) ?_ (fun hHeld => ?_)
    · exact HS0.out
    refine wpAnyH_take (i := 0) (v := .agg #[.int .i64 (s).lo, .int .i64 (s).hi, .bool (s).k]) (at_list rfl) (by kernel_rfl) (by kernel_rfl) (by kernel_rfl) (fun _ _ _ h => h) (Or.inl ⟨by rfl, ?_⟩) (by assumption) ?_
    · intro v hSv
      obtain ⟨q0, q1, q2, q3, q4, q5⟩ := hSv
      go_simp
    try simp only [Act.put, List.setIfInBounds_toArray, List.set_cons_zero, List.set_cons_succ]
    refine wpAnyH_take (i := 2) (v := .agg #[.int .i64 (o).lo, .int .i64 (o).hi, .bool (o).k]) (at_list rfl) (by kernel_rfl) (by kernel_rfl) (by kernel_rfl) (fun _ _ _ h => h) (Or.inl ⟨by rfl, ?_⟩) (by assumption) ?_
    · intro v hSv
      obtain ⟨q0, q1, q2, q3, q4, q5⟩ := hSv
      go_simp
    try simp only [Act.put, List.setIfInBounds_toArray, List.set_cons_zero, List.set_cons_succ]
    refine wpAnyH_ready (rs := [1, 4, 5]) (by kernel_rfl) (by simp) ?_
    refine AllReadyH.cons (at_list rfl) (fun K hK => ?_) ?_
    · go_simp
      refine (OW0.out _).mono ?_
      rintro e w1 ⟨rfl, hb1⟩
      have Q1 := Lib.hid (bstep (bdrew (Below.refl _ _)) hb1)
      go_wp2_with fail
      refine hK.out _ _ ?_ (fun hHeld => ?_)
      · exact keep6 Q1.out HS0.out
      clear hK K
      try simp only [Act.put, List.setIfInBounds_toArray, List.set_cons_zero, List.set_cons_succ]
      refine wpAnyH_ready (rs := [3, 4, 5]) (by kernel_rfl) (by simp) ?_
      refine AllReadyH.cons (at_list rfl) (fun K hK => ?_) ?_
      · go_simp
        refine (OW1.out _).mono ?_
        rintro e w2 ⟨rfl, hb2⟩
        have Q2 := Lib.hid (bstep (Q1.out) hb2)
        go_wp2_with fail
        refine hK.out _ _ ?_ (fun hHeld => ?_)
        · exact keep6 Q2.out HS0.out
        clear hK K
        try simp only [Act.put, List.setIfInBounds_toArray, List.set_cons_zero, List.set_cons_succ]
        refine wpAnyH_ready (rs := [4, 5]) (by kernel_rfl) (by simp) ?_
        refine AllReadyH.cons (at_list rfl) (fun K hK => ?_) ?_
        · go_simp
          refine hK.out _ _ ?_ (fun hHeld => ?_)
          · exact keep6 (bstep (Q2.out) (bnew _ (.cells #[.int .i64 0, .int .i64 0, .bool false] 24))) HS0.out
          clear hK K
          try simp only [Act.put, List.setIfInBounds_toArray, List.set_cons_zero, List.set_cons_succ]
          refine wpAnyH_ready (rs := [5]) (by kernel_rfl) (by simp) ?_
          refine AllReadyH.cons (at_list rfl) (fun K hK => ?_) ?_
          · go_simp
            refine hK.out _ _ ?_ (fun hHeld => ?_)
            · exact keep6 (bstep (bstep (Q2.out) (bnew _ (.cells #[.int .i64 0, .int .i64 0, .bool false] 24))) (bnew _ (.cells #[.int .i64 0, .int .i64 0, .bool false] 24))) HS0.out
            clear hK K
            try simp only [Act.put, List.setIfInBounds_toArray, List.set_cons_zero, List.set_cons_succ]
            have LA := Lib.hid ((Holds.fresh w2 24 #[.int .i64 0, .int .i64 0, .bool false] (g := w2.heap.size) (by simp)).laid (.cells #[.int .i64 0, .int .i64 0, .bool false] 24))
            have LB := Lib.hid (Holds.fresh (w2.alloc (.cells #[.int .i64 0, .int .i64 0, .bool false] 24)) 24 #[.int .i64 0, .int .i64 0, .bool false] (g := w2.heap.size + 1) (by simp))
            have QQ := Lib.hid (bstep (bstep (Q2.out) (bnew _ (.cells #[.int .i64 0, .int .i64 0, .bool false] 24))) (bnew _ (.cells #[.int .i64 0, .int .i64 0, .bool false] 24)))
            have sz1 := (Q1.out).size
            have sz2 := (Q2.out).size
            have sz3 := hb2.size
            try simp at sz3
            have leA : W0.heap.size ≤ w2.heap.size := by omega
            have leB : W0.heap.size ≤ w2.heap.size + 1 := by omega
            have neA : ¬ (w2.heap.size = w2.heap.size + 1) := by first | omega | (have := hb1.size; simp at this; omega)
            have neB : ¬ (w2.heap.size + 1 = w2.heap.size) := fun h => neA h.symm
            clear sz1 sz2 sz3
            generalize ((w2.alloc (.cells #[.int .i64 0, .int .i64 0, .bool false] 24)).alloc (.cells #[.int .i64 0, .int .i64 0, .bool false] 24)) = V at *
            have la0 := (LA.out).reads (i := 0) rfl; have la1 := (LA.out).reads (i := 1) rfl; have la2 := (LA.out).reads (i := 2) rfl
            have lb0 := (LB.out).reads (i := 0) rfl; have lb1 := (LB.out).reads (i := 1) rfl; have lb2 := (LB.out).reads (i := 2) rfl
            have la3 := (LA.out).open_ 0; have la4 := (LA.out).open_ 1; have la5 := (LA.out).open_ 2
            have lb3 := (LB.out).open_ 0; have lb4 := (LB.out).open_ 1; have lb5 := (LB.out).open_ 2
            refine wpAnyH_ready (rs := [6]) (by kernel_rfl) (by simp) ?_
            refine AllReadyH.cons (at_list rfl) (fun K hK => ?_) AllReadyH.nil
            go_simp
            refine hK.out _ _ ?_ (fun hHeld => ?_)
            · exact keep6 (bput3 QQ.out leA _ _ _) HS0.out
            clear hK K
            try simp only [Act.put, List.setIfInBounds_toArray, List.set_cons_zero, List.set_cons_succ]
            refine wpAnyH_ready (rs := [7]) (by kernel_rfl) (by simp) ?_
            refine AllReadyH.cons (at_list rfl) (fun K hK => ?_) AllReadyH.nil
            go_simp
            refine hK.out _ _ ?_ (fun hHeld => ?_)
            · exact keep6 (bput3 (bput3 QQ.out leA _ _ _) leB _ _ _) HS0.out
            clear hK K
            try simp only [Act.put, List.setIfInBounds_toArray, List.set_cons_zero, List.set_cons_succ]
            refine wpAnyH_done (by kernel_rfl) ?_ _
            refine NoPanic.normal ?_
            go_wp2_with fail
            go_meet
            exact ⟨_, _, rfl, rfl, ((LA.out).put3 _ _ _).aside3 neB _ _ _, ((LB.out).aside3 neA _ _ _).put3 _ _ _, bput3 (bput3 QQ.out leA _ _ _) leB _ _ _⟩
          exact AllReadyH.nil
        refine AllReadyH.cons (at_list rfl) (fun K hK => ?_) ?_
        · go_simp
          refine hK.out _ _ ?_ (fun hHeld => ?_)
          · exact keep6 (bstep (Q2.out) (bnew _ (.cells #[.int .i64 0, .int .i64 0, .bool false] 24))) HS0.out
          clear hK K
          try simp only [Act.put, List.setIfInBounds_toArray, List.set_cons_zero, List.set_cons_succ]
          refine wpAnyH_ready (rs := [4]) (by kernel_rfl) (by simp) ?_
          refine AllReadyH.cons (at_list rfl) (fun K hK => ?_) ?_
          · go_simp
            refine hK.out _ _ ?_ (fun hHeld => ?_)
            · exact keep6 (bstep (bstep (Q2.out) (bnew _ (.cells #[.int .i64 0, .int .i64 0, .bool false] 24))) (bnew _ (.cells #[.int .i64 0, .int .i64 0, .bool false] 24))) HS0.out
            clear hK K
            try simp only [Act.put, List.setIfInBounds_toArray, List.set_cons_zero, List.set_cons_succ]
            have LA := Lib.hid (Holds.fresh (w2.alloc (.cells #[.int .i64 0, .int .i64 0, .bool false] 24)) 24 #[.int .i64 0, .int .i64 0, .bool false] (g := w2.heap.size + 1) (by simp))
            have LB := Lib.hid ((Holds.fresh w2 24 #[.int .i64 0, .int .i64 0, .bool false] (g := w2.heap.size) (by simp)).laid (.cells #[.int .i64 0, .int .i64 0, .bool false] 24))
            have QQ := Lib.hid (bstep (bstep (Q2.out) (bnew _ (.cells #[.int .i64 0, .int .i64 0, .bool false] 24))) (bnew _ (.cells #[.int .i64 0, .int .i64 0, .bool false] 24)))
            have sz1 := (Q1.out).size
            have sz2 := (Q2.out).size
            have sz3 := hb2.size
            try simp at sz3
            have leA : W0.heap.size ≤ w2.heap.size + 1 := by omega
            have leB : W0.heap.size ≤ w2.heap.size := by omega
            have neA : ¬ (w2.heap.size + 1 = w2.heap.size) := by first | omega | (have := hb1.size; simp at this; omega)
            have neB : ¬ (w2.heap.size = w2.heap.size + 1) := fun h => neA h.symm
            clear sz1 sz2 sz3
            generalize ((w2.alloc (.cells #[.int .i64 0, .int .i64 0, .bool false] 24)).alloc (.cells #[.int .i64 0, .int .i64 0, .bool false] 24)) = V at *
            have la0 := (LA.out).reads (i := 0) rfl; have la1 := (LA.out).reads (i := 1) rfl; have la2 := (LA.out).reads (i := 2) rfl
            have lb0 := (LB.out).reads (i := 0) rfl; have lb1 := (LB.out).reads (i := 1) rfl; have lb2 := (LB.out).reads (i := 2) rfl
            have la3 := (LA.out).open_ 0; have la4 := (LA.out).open_ 1; have la5 := (LA.out).open_ 2
            have lb3 := (LB.out).open_ 0; have lb4 := (LB.out).open_ 1; have lb5 := (LB.out).open_ 2
            refine wpAnyH_ready (rs := [6]) (by kernel_rfl) (by simp) ?_
            refine AllReadyH.cons (at_list rfl) (fun K hK => ?_) AllReadyH.nil
            go_simp
            refine hK.out _ _ ?_ (fun hHeld => ?_)
            · exact keep6 (bput3 QQ.out leA _ _ _) HS0.out
            clear hK K
            try simp only [Act.put, List.setIfInBounds_toArray, List.set_cons_zero, List.set_cons_succ]
            refine wpAnyH_ready (rs := [7]) (by kernel_rfl) (by simp) ?_
            refine AllReadyH.cons (at_list rfl) (fun K hK => ?_) AllReadyH.nil
            go_simp
            refine hK.out _ _ ?_ (fun hHeld => ?_)
            · exact keep6 (bput3 (bput3 QQ.out leA _ _ _) leB _ _ _) HS0.out
            clear hK K
            try simp only [Act.put, List.setIfInBounds_toArray, List.set_cons_zero, List.set_cons_succ]
            refine wpAnyH_done (by kernel_rfl) ?_ _
            refine NoPanic.normal ?_
            go_wp2_with fail
            go_meet
            exact ⟨_, _, rfl, rfl, ((LA.out).put3 _ _ _).aside3 neB _ _ _, ((LB.out).aside3 neA _ _ _).put3 _ _ _, bput3 (bput3 QQ.out leA _ _ _) leB _ _ _⟩
          exact AllReadyH.nil
        exact AllReadyH.nil
      refine AllReadyH.cons (at_list rfl) (fun K hK => ?_) ?_
      · go_simp
        refine hK.out _ _ ?_ (fun hHeld => ?_)
        · exact keep6 (bstep (Q1.out) (bnew _ (.cells #[.int .i64 0, .int .i64 0, .bool false] 24))) HS0.out
        clear hK K
        try simp only [Act.put, List.setIfInBounds_toArray, List.set_cons_zero, List.set_cons_succ]
        refine wpAnyH_ready (rs := [3, 5]) (by kernel_rfl) (by simp) ?_
        refine AllReadyH.cons (at_list rfl) (fun K hK => ?_) ?_
        · go_simp
          refine (OW1.out _).mono ?_
          rintro e w2 ⟨rfl, hb2⟩
          have Q2 := Lib.hid (bstep (bstep (Q1.out) (bnew _ (.cells #[.int .i64 0, .int .i64 0, .bool false] 24))) hb2)
          have KA2 := Lib.hid ((Holds.fresh w1 24 #[.int .i64 0, .int .i64 0, .bool false] (g := w1.heap.size) (by simp)).keptB hb2)
          go_wp2_with fail
          refine hK.out _ _ ?_ (fun hHeld => ?_)
          · exact keep6 Q2.out HS0.out
          clear hK K
          try simp only [Act.put, List.setIfInBounds_toArray, List.set_cons_zero, List.set_cons_succ]
          refine wpAnyH_ready (rs := [5]) (by kernel_rfl) (by simp) ?_
          refine AllReadyH.cons (at_list rfl) (fun K hK => ?_) ?_
          · go_simp
            refine hK.out _ _ ?_ (fun hHeld => ?_)
            · exact keep6 (bstep (Q2.out) (bnew _ (.cells #[.int .i64 0, .int .i64 0, .bool false] 24))) HS0.out
            clear hK K
            try simp only [Act.put, List.setIfInBounds_toArray, List.set_cons_zero, List.set_cons_succ]
            have LA := Lib.hid ((KA2.out).laid (.cells #[.int .i64 0, .int .i64 0, .bool false] 24))
            have LB := Lib.hid (Holds.fresh w2 24 #[.int .i64 0, .int .i64 0, .bool false] (g := w2.heap.size) (by simp))
            have QQ := Lib.hid (bstep (Q2.out) (bnew _ (.cells #[.int .i64 0, .int .i64 0, .bool false] 24)))
            have sz1 := (Q1.out).size
            have sz2 := (Q2.out).size
            have sz3 := hb2.size
            try simp at sz3
            have leA : W0.heap.size ≤ w1.heap.size := by omega
            have leB : W0.heap.size ≤ w2.heap.size := by omega
            have neA : ¬ (w1.heap.size = w2.heap.size) := by first | omega | (have := hb1.size; simp at this; omega)
            have neB : ¬ (w2.heap.size = w1.heap.size) := fun h => neA h.symm
            clear sz1 sz2 sz3
            generalize (w2.alloc (.cells #[.int .i64 0, .int .i64 0, .bool false] 24)) = V at *
            have la0 := (LA.out).reads (i := 0) rfl; have la1 := (LA.out).reads (i := 1) rfl; have la2 := (LA.out).reads (i := 2) rfl
            have lb0 := (LB.out).reads (i := 0) rfl; have lb1 := (LB.out).reads (i := 1) rfl; have lb2 := (LB.out).reads (i := 2) rfl
            have la3 := (LA.out).open_ 0; have la4 := (LA.out).open_ 1; have la5 := (LA.out).open_ 2
            have lb3 := (LB.out).open_ 0; have lb4 := (LB.out).open_ 1; have lb5 := (LB.out).open_ 2
            refine wpAnyH_ready (rs := [6]) (by kernel_rfl) (by simp) ?_
            refine AllReadyH.cons (at_list rfl) (fun K hK => ?_) AllReadyH.nil
            go_simp
            refine hK.out _ _ ?_ (fun hHeld => ?_)
            · exact keep6 (bput3 QQ.out leA _ _ _) HS0.out
            clear hK K
            try simp only [Act.put, List.setIfInBounds_toArray, List.set_cons_zero, List.set_cons_succ]
            refine wpAnyH_ready (rs := [7]) (by kernel_rfl) (by simp) ?_
            refine AllReadyH.cons (at_list rfl) (fun K hK => ?_) AllReadyH.nil
            go_simp
            refine hK.out _ _ ?_ (fun hHeld => ?_)
            · exact keep6 (bput3 (bput3 QQ.out leA _ _ _) leB _ _ _) HS0.out
            clear hK K
            try simp only [Act.put, List.setIfInBounds_toArray, List.set_cons_zero, List.set_cons_succ]
            refine wpAnyH_done (by kernel_rfl) ?_ _
            refine NoPanic.normal ?_
            go_wp2_with fail
            go_meet
            exact ⟨_, _, rfl, rfl, ((LA.out).put3 _ _ _).aside3 neB _ _ _, ((LB.out).aside3 neA _ _ _).put3 _ _ _, bput3 (bput3 QQ.out leA _ _ _) leB _ _ _⟩
          exact AllReadyH.nil
        refine AllReadyH.cons (at_list rfl) (fun K hK => ?_) ?_
        · go_simp
          refine hK.out _ _ ?_ (fun hHeld => ?_)
          · exact keep6 (bstep (bstep (Q1.out) (bnew _ (.cells #[.int .i64 0, .int .i64 0, .bool false] 24))) (bnew _ (.cells #[.int .i64 0, .int .i64 0, .bool false] 24))) HS0.out
          clear hK K
          try simp only [Act.put, List.setIfInBounds_toArray, List.set_cons_zero, List.set_cons_succ]
          refine wpAnyH_ready (rs := [3]) (by kernel_rfl) (by simp) ?_
          refine AllReadyH.cons (at_list rfl) (fun K hK => ?_) ?_
          · go_simp
            refine (OW1.out _).mono ?_
            rintro e w2 ⟨rfl, hb2⟩
            have Q2 := Lib.hid (bstep (bstep (bstep (Q1.out) (bnew _ (.cells #[.int .i64 0, .int .i64 0, .bool false] 24))) (bnew _ (.cells #[.int .i64 0, .int .i64 0, .bool false] 24))) hb2)
            have KA2 := Lib.hid (((Holds.fresh w1 24 #[.int .i64 0, .int .i64 0, .bool false] (g := w1.heap.size) (by simp)).laid (.cells #[.int .i64 0, .int .i64 0, .bool false] 24)).keptB hb2)
            have KB2 := Lib.hid ((Holds.fresh (w1.alloc (.cells #[.int .i64 0, .int .i64 0, .bool false] 24)) 24 #[.int .i64 0, .int .i64 0, .bool false] (g := w1.heap.size + 1) (by simp)).keptB hb2)
            go_wp2_with fail
            refine hK.out _ _ ?_ (fun hHeld => ?_)
            · exact keep6 Q2.out HS0.out
            clear hK K
            try simp only [Act.put, List.setIfInBounds_toArray, List.set_cons_zero, List.set_cons_succ]
            have LA := Lib.hid (KA2.out)
            have LB := Lib.hid (KB2.out)
            have QQ := Lib.hid (Q2.out)
            have sz1 := (Q1.out).size
            have sz2 := (Q2.out).size
            have sz3 := hb2.size
            try simp at sz3
            have leA : W0.heap.size ≤ w1.heap.size := by omega
            have leB : W0.heap.size ≤ w1.heap.size + 1 := by omega
            have neA : ¬ (w1.heap.size = w1.heap.size + 1) := by first | omega | (have := hb1.size; simp at this; omega)
            have neB : ¬ (w1.heap.size + 1 = w1.heap.size) := fun h => neA h.symm
            clear sz1 sz2 sz3
            have la0 := (LA.out).reads (i := 0) rfl; have la1 := (LA.out).reads (i := 1) rfl; have la2 := (LA.out).reads (i := 2) rfl
            have lb0 := (LB.out).reads (i := 0) rfl; have lb1 := (LB.out).reads (i := 1) rfl; have lb2 := (LB.out).reads (i := 2) rfl
            have la3 := (LA.out).open_ 0; have la4 := (LA.out).open_ 1; have la5 := (LA.out).open_ 2
            have lb3 := (LB.out).open_ 0; have lb4 := (LB.out).open_ 1; have lb5 := (LB.out).open_ 2
            refine wpAnyH_ready (rs := [6]) (by kernel_rfl) (by simp) ?_
            refine AllReadyH.cons (at_list rfl) (fun K hK => ?_) AllReadyH.nil
            go_simp
            refine hK.out _ _ ?_ (fun hHeld => ?_)
            · exact keep6 (bput3 QQ.out leA _ _ _) HS0.out
            clear hK K
            try simp only [Act.put, List.setIfInBounds_toArray, List.set_cons_zero, List.set_cons_succ]
            refine wpAnyH_ready (rs := [7]) (by kernel_rfl) (by simp) ?_
            refine AllReadyH.cons (at_list rfl) (fun K hK => ?_) AllReadyH.nil
            go_simp
            refine hK.out _ _ ?_ (fun hHeld => ?_)
            · exact keep6 (bput3 (bput3 QQ.out leA _ _ _) leB _ _ _) HS0.out
            clear hK K
            try simp only [Act.put, List.setIfInBounds_toArray, List.set_cons_zero, List.set_cons_succ]
            refine wpAnyH_done (by kernel_rfl) ?_ _
            refine NoPanic.normal ?_
            go_wp2_with fail
            go_meet
            exact ⟨_, _, rfl, rfl, ((LA.out).put3 _ _ _).aside3 neB _ _ _, ((LB.out).aside3 neA _ _ _).put3 _ _ _, bput3 (bput3 QQ.out leA _ _ _) leB _ _ _⟩
          exact AllReadyH.nil
        exact AllReadyH.nil
      refine AllReadyH.cons (at_list rfl) (fun K hK => ?_) ?_
      · go_simp
        refine hK.out _ _ ?_ (fun hHeld => ?_)
        · exact keep6 (bstep (Q1.out) (bnew _ (.cells #[.int .i64 0, .int .i64 0, .bool false] 24))) HS0.out
        clear hK K
        try simp only [Act.put, List.setIfInBounds_toArray, List.set_cons_zero, List.set_cons_succ]
        refine wpAnyH_ready (rs := [3, 4]) (by kernel_rfl) (by simp) ?_
        refine AllReadyH.cons (at_list rfl) (fun K hK => ?_) ?_
        · go_simp
          refine (OW1.out _).mono ?_
          rintro e w2 ⟨rfl, hb2⟩
          have Q2 := Lib.hid (bstep (bstep (Q1.out) (bnew _ (.cells #[.int .i64 0, .int .i64 0, .bool false] 24))) hb2)
          have KB2 := Lib.hid ((Holds.fresh w1 24 #[.int .i64 0, .int .i64 0, .bool false] (g := w1.heap.size) (by simp)).keptB hb2)
          go_wp2_with fail
          refine hK.out _ _ ?_ (fun hHeld => ?_)
          · exact keep6 Q2.out HS0.out
          clear hK K
          try simp only [Act.put, List.setIfInBounds_toArray, List.set_cons_zero, List.set_cons_succ]
          refine wpAnyH_ready (rs := [4]) (by kernel_rfl) (by simp) ?_
          refine AllReadyH.cons (at_list rfl) (fun K hK => ?_) ?_
          · go_simp
            refine hK.out _ _ ?_ (fun hHeld => ?_)
            · exact keep6 (bstep (Q2.out) (bnew _ (.cells #[.int .i64 0, .int .i64 0, .bool false] 24))) HS0.out
            clear hK K
            try simp only [Act.put, List.setIfInBounds_toArray, List.set_cons_zero, List.set_cons_succ]
            have LA := Lib.hid (Holds.fresh w2 24 #[.int .i64 0, .int .i64 0, .bool false] (g := w2.heap.size) (by simp))
            have LB := Lib.hid ((KB2.out).laid (.cells #[.int .i64 0, .int .i64 0, .bool false] 24))
            have QQ := Lib.hid (bstep (Q2.out) (bnew _ (.cells #[.int .i64 0, .int .i64 0, .bool false] 24)))
            have sz1 := (Q1.out).size
            have sz2 := (Q2.out).size
            have sz3 := hb2.size
            try simp at sz3
            have leA : W0.heap.size ≤ w2.heap.size := by omega
            have leB : W0.heap.size ≤ w1.heap.size := by omega
            have neA : ¬ (w2.heap.size = w1.heap.size) := by first | omega | (have := hb1.size; simp at this; omega)
            have neB : ¬ (w1.heap.size = w2.heap.size) := fun h => neA h.symm
            clear sz1 sz2 sz3
            generalize (w2.alloc (.cells #[.int .i64 0, .int .i64 0, .bool false] 24)) = V at *
            have la0 := (LA.out).reads (i := 0) rfl; have la1 := (LA.out).reads (i := 1) rfl; have la2 := (LA.out).reads (i := 2) rfl
            have lb0 := (LB.out).reads (i := 0) rfl; have lb1 := (LB.out).reads (i := 1) rfl; have lb2 := (LB.out).reads (i := 2) rfl
            have la3 := (LA.out).open_ 0; have la4 := (LA.out).open_ 1; have la5 := (LA.out).open_ 2
            have lb3 := (LB.out).open_ 0; have lb4 := (LB.out).open_ 1; have lb5 := (LB.out).open_ 2
            refine wpAnyH_ready (rs := [6]) (by kernel_rfl) (by simp) ?_
            refine AllReadyH.cons (at_list rfl) (fun K hK => ?_) AllReadyH.nil
            go_simp
            refine hK.out _ _ ?_ (fun hHeld => ?_)
            · exact keep6 (bput3 QQ.out leA _ _ _) HS0.out
            clear hK K
            try simp only [Act.put, List.setIfInBounds_toArray, List.set_cons_zero, List.set_cons_succ]
            refine wpAnyH_ready (rs := [7]) (by kernel_rfl) (by simp) ?_
            refine AllReadyH.cons (at_list rfl) (fun K hK => ?_) AllReadyH.nil
            go_simp
            refine hK.out _ _ ?_ (fun hHeld => ?_)
            · exact keep6 (bput3 (bput3 QQ.out leA _ _ _) leB _ _ _) HS0.out
            clear hK K
            try simp only [Act.put, List.setIfInBounds_toArray, List.set_cons_zero, List.set_cons_succ]
            refine wpAnyH_done (by kernel_rfl) ?_ _
            refine NoPanic.normal ?_
            go_wp2_with fail
            go_meet
            exact ⟨_, _, rfl, rfl, ((LA.out).put3 _ _ _).aside3 neB _ _ _, ((LB.out).aside3 neA _ _ _).put3 _ _ _, bput3 (bput3 QQ.out leA _ _ _) leB _ _ _⟩
          exact AllReadyH.nil
        refine AllReadyH.cons (at_list rfl) (fun K hK => ?_) ?_
        · go_simp
          refine hK.out _ _ ?_ (fun hHeld => ?_)
          · exact keep6 (bstep (bstep (Q1.out) (bnew _ (.cells #[.int .i64 0, .int .i64 0, .bool false] 24))) (bnew _ (.cells #[.int .i64 0, .int .i64 0, .bool false] 24))) HS0.out
          clear hK K
          try simp only [Act.put, List.setIfInBounds_toArray, List.set_cons_zero, List.set_cons_succ]
          refine wpAnyH_ready (rs := [3]) (by kernel_rfl) (by simp) ?_
          refine AllReadyH.cons (at_list rfl) (fun K hK => ?_) ?_
          · go_simp
            refine (OW1.out _).mono ?_
            rintro e w2 ⟨rfl, hb2⟩
            have Q2 := Lib.hid (bstep (bstep (bstep (Q1.out) (bnew _ (.cells #[.int .i64 0, .int .i64 0, .bool false] 24))) (bnew _ (.cells #[.int .i64 0, .int .i64 0, .bool false] 24))) hb2)
            have KB2 := Lib.hid (((Holds.fresh w1 24 #[.int .i64 0, .int .i64 0, .bool false] (g := w1.heap.size) (by simp)).laid (.cells #[.int .i64 0, .int .i64 0, .bool false] 24)).keptB hb2)
            have KA2 := Lib.hid ((Holds.fresh (w1.alloc (.cells #[.int .i64 0, .int .i64 0, .bool false] 24)) 24 #[.int .i64 0, .int .i64 0, .bool false] (g := w1.heap.size + 1) (by simp)).keptB hb2)
            go_wp2_with fail
            refine hK.out _ _ ?_ (fun hHeld => ?_)
            · exact keep6 Q2.out HS0.out
            clear hK K
            try simp only [Act.put, List.setIfInBounds_toArray, List.set_cons_zero, List.set_cons_succ]
            have LA := Lib.hid (KA2.out)
            have LB := Lib.hid (KB2.out)
            have QQ := Lib.hid (Q2.out)
            have sz1 := (Q1.out).size
            have sz2 := (Q2.out).size
            have sz3 := hb2.size
            try simp at sz3
            have leA : W0.heap.size ≤ w1.heap.size + 1 := by omega
            have leB : W0.heap.size ≤ w1.heap.size := by omega
            have neA : ¬ (w1.heap.size + 1 = w1.heap.size) := by first | omega | (have := hb1.size; simp at this; omega)
            have neB : ¬ (w1.heap.size = w1.heap.size + 1) := fun h => neA h.symm
            clear sz1 sz2 sz3
            have la0 := (LA.out).reads (i := 0) rfl; have la1 := (LA.out).reads (i := 1) rfl; have la2 := (LA.out).reads (i := 2) rfl
            have lb0 := (LB.out).reads (i := 0) rfl; have lb1 := (LB.out).reads (i := 1) rfl; have lb2 := (LB.out).reads (i := 2) rfl
            have la3 := (LA.out).open_ 0; have la4 := (LA.out).open_ 1; have la5 := (LA.out).open_ 2
            have lb3 := (LB.out).open_ 0; have lb4 := (LB.out).open_ 1; have lb5 := (LB.out).open_ 2
            refine wpAnyH_ready (rs := [6]) (by kernel_rfl) (by simp) ?_
            refine AllReadyH.cons (at_list rfl) (fun K hK => ?_) AllReadyH.nil
            go_simp
            refine hK.out _ _ ?_ (fun hHeld => ?_)
            · exact keep6 (bput3 QQ.out leA _ _ _) HS0.out
            clear hK K
            try simp only [Act.put, List.setIfInBounds_toArray, List.set_cons_zero, List.set_cons_succ]
            refine wpAnyH_ready (rs := [7]) (by kernel_rfl) (by simp) ?_
            refine AllReadyH.cons (at_list rfl) (fun K hK => ?_) AllReadyH.nil
            go_simp
            refine hK.out _ _ ?_ (fun hHeld => ?_)
            · exact keep6 (bput3 (bput3 QQ.out leA _ _ _) leB _ _ _) HS0.out
            clear hK K
            try simp only [Act.put, List.setIfInBounds_toArray, List.set_cons_zero, List.set_cons_succ]
            refine wpAnyH_done (by kernel_rfl) ?_ _
            refine NoPanic.normal ?_
            go_wp2_with fail
            go_meet
            exact ⟨_, _, rfl, rfl, ((LA.out).put3 _ _ _).aside3 neB _ _ _, ((LB.out).aside3 neA _ _ _).put3 _ _ _, bput3 (bput3 QQ.out leA _ _ _) leB _ _ _⟩
          exact AllReadyH.nil
        exact AllReadyH.nil
      exact AllReadyH.nil
    refine AllReadyH.cons (at_list rfl) (fun K hK => ?_) ?_
    · go_simp
      refine hK.out _ _ ?_ (fun hHeld => ?_)
      · exact keep6 (bdrew (bnew W0 (.cells #[.int .i64 0, .int .i64 0, .bool false] 24))) HS0.out
      clear hK K
      try simp only [Act.put, List.setIfInBounds_toArray, List.set_cons_zero, List.set_cons_succ]
      refine wpAnyH_ready (rs := [1, 5]) (by kernel_rfl) (by simp) ?_
      refine AllReadyH.cons (at_list rfl) (fun K hK => ?_) ?_
      · go_simp
        refine (OW0.out _).mono ?_
        rintro e w1 ⟨rfl, hb1⟩
        have Q1 := Lib.hid (bstep (bdrew (bnew W0 (.cells #[.int .i64 0, .int .i64 0, .bool false] 24))) hb1)
        have KA1 := Lib.hid (((Holds.fresh W0 24 #[.int .i64 0, .int .i64 0, .bool false] (g := W0.heap.size) (by simp)).drew).keptB hb1)
        go_wp2_with fail
        refine hK.out _ _ ?_ (fun hHeld => ?_)
        · exact keep6 Q1.out HS0.out
        clear hK K
        try simp only [Act.put, List.setIfInBounds_toArray, List.set_cons_zero, List.set_cons_succ]
        refine wpAnyH_ready (rs := [3, 5]) (by kernel_rfl) (by simp) ?_
        refine AllReadyH.cons (at_list rfl) (fun K hK => ?_) ?_
        · go_simp
          refine (OW1.out _).mono ?_
          rintro e w2 ⟨rfl, hb2⟩
          have Q2 := Lib.hid (bstep (Q1.out) hb2)
          have KA2 := Lib.hid ((KA1.out).keptB hb2)
          go_wp2_with fail
          refine hK.out _ _ ?_ (fun hHeld => ?_)
          · exact keep6 Q2.out HS0.out
          clear hK K
          try simp only [Act.put, List.setIfInBounds_toArray, List.set_cons_zero, List.set_cons_succ]
          refine wpAnyH_ready (rs := [5]) (by kernel_rfl) (by simp) ?_
          refine AllReadyH.cons (at_list rfl) (fun K hK => ?_) ?_
          · go_simp
            refine hK.out _ _ ?_ (fun hHeld => ?_)
            · exact keep6 (bstep (Q2.out) (bnew _ (.cells #[.int .i64 0, .int .i64 0, .bool false] 24))) HS0.out
            clear hK K
            try simp only [Act.put, List.setIfInBounds_toArray, List.set_cons_zero, List.set_cons_succ]
            have LA := Lib.hid ((KA2.out).laid (.cells #[.int .i64 0, .int .i64 0, .bool false] 24))
            have LB := Lib.hid (Holds.fresh w2 24 #[.int .i64 0, .int .i64 0, .bool false] (g := w2.heap.size) (by simp))
            have QQ := Lib.hid (bstep (Q2.out) (bnew _ (.cells #[.int .i64 0, .int .i64 0, .bool false] 24)))
            have sz1 := (Q1.out).size
            have sz2 := (Q2.out).size
            have sz3 := hb2.size
            try simp at sz3
            have leA : W0.heap.size ≤ W0.heap.size := by omega
            have leB : W0.heap.size ≤ w2.heap.size := by omega
            have neA : ¬ (W0.heap.size = w2.heap.size) := by first | omega | (have := hb1.size; simp at this; omega)
            have neB : ¬ (w2.heap.size = W0.heap.size) := fun h => neA h.symm
            clear sz1 sz2 sz3
            generalize (w2.alloc (.cells #[.int .i64 0, .int .i64 0, .bool false] 24)) = V at *
            have la0 := (LA.out).reads (i := 0) rfl; have la1 := (LA.out).reads (i := 1) rfl; have la2 := (LA.out).reads (i := 2) rfl
            have lb0 := (LB.out).reads (i := 0) rfl; have lb1 := (LB.out).reads (i := 1) rfl; have lb2 := (LB.out).reads (i := 2) rfl
            have la3 := (LA.out).open_ 0; have la4 := (LA.out).open_ 1; have la5 := (LA.out).open_ 2
            have lb3 := (LB.out).open_ 0; have lb4 := (LB.out).open_ 1; have lb5 := (LB.out).open_ 2
            refine wpAnyH_ready (rs := [6]) (by kernel_rfl) (by simp) ?_
            refine AllReadyH.cons (at_list rfl) (fun K hK => ?_) AllReadyH.nil
            go_simp
            refine hK.out _ _ ?_ (fun hHeld => ?_)
            · exact keep6 (bput3 QQ.out leA _ _ _) HS0.out
            clear hK K
            try simp only [Act.put, List.setIfInBounds_toArray, List.set_cons_zero, List.set_cons_succ]
            refine wpAnyH_ready (rs := [7]) (by kernel_rfl) (by simp) ?_
            refine AllReadyH.cons (at_list rfl) (fun K hK => ?_) AllReadyH.nil
            go_simp
            refine hK.out _ _ ?_ (fun hHeld => ?_)
            · exact keep6 (bput3 (bput3 QQ.out leA _ _ _) leB _ _ _) HS0.out
            clear hK K
            try simp only [Act.put, List.setIfInBounds_toArray, List.set_cons_zero, List.set_cons_succ]
            refine wpAnyH_done (by kernel_rfl) ?_ _
            refine NoPanic.normal ?_
            go_wp2_with fail
            go_meet
            exact ⟨_, _, rfl, rfl, ((LA.out).put3 _ _ _).aside3 neB _ _ _, ((LB.out).aside3 neA _ _ _).put3 _ _ _, bput3 (bput3 QQ.out leA _ _ _) leB _ _ _⟩
          exact AllReadyH.nil
        refine AllReadyH.cons (at_list rfl) (fun K hK => ?_) ?_
        · go_simp
          refine hK.out _ _ ?_ (fun hHeld => ?_)
          · exact keep6 (bstep (Q1.out) (bnew _ (.cells #[.int .i64 0, .int .i64 0, .bool false] 24))) HS0.out
          clear hK K
          try simp only [Act.put, List.setIfInBounds_toArray, List.set_cons_zero, List.set_cons_succ]
          refine wpAnyH_ready (rs := [3]) (by kernel_rfl) (by simp) ?_
          refine AllReadyH.cons (at_list rfl) (fun K hK => ?_) ?_
          · go_simp
            refine (OW1.out _).mono ?_
            rintro e w2 ⟨rfl, hb2⟩
            have Q2 := Lib.hid (bstep (bstep (Q1.out) (bnew _ (.cells #[.int .i64 0, .int .i64 0, .bool false] 24))) hb2)
            have KA2 := Lib.hid (((KA1.out).laid (.cells #[.int .i64 0, .int .i64 0, .bool false] 24)).keptB hb2)
            have KB2 := Lib.hid ((Holds.fresh w1 24 #[.int .i64 0, .int .i64 0, .bool false] (g := w1.heap.size) (by simp)).keptB hb2)
            go_wp2_with fail
            refine hK.out _ _ ?_ (fun hHeld => ?_)
            · exact keep6 Q2.out HS0.out
            clear hK K
            try simp only [Act.put, List.setIfInBounds_toArray, List.set_cons_zero, List.set_cons_succ]
            have LA := Lib.hid (KA2.out)
            have LB := Lib.hid (KB2.out)
            have QQ := Lib.hid (Q2.out)
            have sz1 := (Q1.out).size
            have sz2 := (Q2.out).size
            have sz3 := hb2.size
            try simp at sz3
            have leA : W0.heap.size ≤ W0.heap.size := by omega
            have leB : W0.heap.size ≤ w1.heap.size := by omega
            have neA : ¬ (W0.heap.size = w1.heap.size) := by first | omega | (have := hb1.size; simp at this; omega)
            have neB : ¬ (w1.heap.size = W0.heap.size) := fun h => neA h.symm
            clear sz1 sz2 sz3
            have la0 := (LA.out).reads (i := 0) rfl; have la1 := (LA.out).reads (i := 1) rfl; have la2 := (LA.out).reads (i := 2) rfl
            have lb0 := (LB.out).reads (i := 0) rfl; have lb1 := (LB.out).reads (i := 1) rfl; have lb2 := (LB.out).reads (i := 2) rfl
            have la3 := (LA.out).open_ 0; have la4 := (LA.out).open_ 1; have la5 := (LA.out).open_ 2
            have lb3 := (LB.out).open_ 0; have lb4 := (LB.out).open_ 1; have lb5 := (LB.out).open_ 2
            refine wpAnyH_ready (rs := [6]) (by kernel_rfl) (by simp) ?_
            refine AllReadyH.cons (at_list rfl) (fun K hK => ?_) AllReadyH.nil
            go_simp
            refine hK.out _ _ ?_ (fun hHeld => ?_)
            · exact keep6 (bput3 QQ.out leA _ _ _) HS0.out
            clear hK K
            try simp only [Act.put, List.setIfInBounds_toArray, List.set_cons_zero, List.set_cons_succ]
            refine wpAnyH_ready (rs := [7]) (by kernel_rfl) (by simp) ?_
            refine AllReadyH.cons (at_list rfl) (fun K hK => ?_) AllReadyH.nil
            go_simp
            refine hK.out _ _ ?_ (fun hHeld => ?_)
            · exact keep6 (bput3 (bput3 QQ.out leA _ _ _) leB _ _ _) HS0.out
            clear hK K
            try simp only [Act.put, List.setIfInBounds_toArray, List.set_cons_zero, List.set_cons_succ]
            refine wpAnyH_done (by kernel_rfl) ?_ _
            refine NoPanic.normal ?_
            go_wp2_with fail
            go_meet
            exact ⟨_, _, rfl, rfl, ((LA.out).put3 _ _ _).aside3 neB _ _ _, ((LB.out).aside3 neA _ _ _).put3 _ _ _, bput3 (bput3 QQ.out leA _ _ _) leB _ _ _⟩
          exact AllReadyH.nil
        exact AllReadyH.nil
      refine AllReadyH.cons (at_list rfl) (fun K hK => ?_) ?_
      · go_simp
        refine hK.out _ _ ?_ (fun hHeld => ?_)
        · exact keep6 (bdrew (bstep (bnew W0 (.cells #[.int .i64 0, .int .i64 0, .bool false] 24)) (bnew _ (.cells #[.int .i64 0, .int .i64 0, .bool false] 24)))) HS0.out
        clear hK K
        try simp only [Act.put, List.setIfInBounds_toArray, List.set_cons_zero, List.set_cons_succ]
        refine wpAnyH_ready (rs := [1]) (by kernel_rfl) (by simp) ?_
        refine AllReadyH.cons (at_list rfl) (fun K hK => ?_) ?_
        · go_simp
          refine (OW0.out _).mono ?_
          rintro e w1 ⟨rfl, hb1⟩
          have Q1 := Lib.hid (bstep (bdrew (bstep (bnew W0 (.cells #[.int .i64 0, .int .i64 0, .bool false] 24)) (bnew _ (.cells #[.int .i64 0, .int .i64 0, .bool false] 24)))) hb1)
          have KA1 := Lib.hid (((((Holds.fresh W0 24 #[.int .i64 0, .int .i64 0, .bool false] (g := W0.heap.size) (by simp))).laid (.cells #[.int .i64 0, .int .i64 0, .bool false] 24)).drew).keptB hb1)
          have KB1 := Lib.hid (((Holds.fresh (W0.alloc (.cells #[.int .i64 0, .int .i64 0, .bool false] 24)) 24 #[.int .i64 0, .int .i64 0, .bool false] (g := W0.heap.size + 1) (by simp)).drew).keptB hb1)
          go_wp2_with fail
          refine hK.out _ _ ?_ (fun hHeld => ?_)
          · exact keep6 Q1.out HS0.out
          clear hK K
          try simp only [Act.put, List.setIfInBounds_toArray, List.set_cons_zero, List.set_cons_succ]
          refine wpAnyH_ready (rs := [3]) (by kernel_rfl) (by simp) ?_
          refine AllReadyH.cons (at_list rfl) (fun K hK => ?_) ?_
          · go_simp
            refine (OW1.out _).mono ?_
            rintro e w2 ⟨rfl, hb2⟩
            have Q2 := Lib.hid (bstep (Q1.out) hb2)
            have KA2 := Lib.hid ((KA1.out).keptB hb2)
            have KB2 := Lib.hid ((KB1.out).keptB hb2)
            go_wp2_with fail
            refine hK.out _ _ ?_ (fun hHeld => ?_)
            · exact keep6 Q2.out HS0.out
            clear hK K
            try simp only [Act.put, List.setIfInBounds_toArray, List.set_cons_zero, List.set_cons_succ]
            have LA := Lib.hid (KA2.out)
            have LB := Lib.hid (KB2.out)
            have QQ := Lib.hid (Q2.out)
            have sz1 := (Q1.out).size
            have sz2 := (Q2.out).size
            have sz3 := hb2.size
            try simp at sz3
            have leA : W0.heap.size ≤ W0.heap.size := by omega
            have leB : W0.heap.size ≤ W0.heap.size + 1 := by omega
            have neA : ¬ (W0.heap.size = W0.heap.size + 1) := by first | omega | (have := hb1.size; simp at this; omega)
            have neB : ¬ (W0.heap.size + 1 = W0.heap.size) := fun h => neA h.symm
            clear sz1 sz2 sz3
            have la0 := (LA.out).reads (i := 0) rfl; have la1 := (LA.out).reads (i := 1) rfl; have la2 := (LA.out).reads (i := 2) rfl
            have lb0 := (LB.out).reads (i := 0) rfl; have lb1 := (LB.out).reads (i := 1) rfl; have lb2 := (LB.out).reads (i := 2) rfl
            have la3 := (LA.out).open_ 0; have la4 := (LA.out).open_ 1; have la5 := (LA.out).open_ 2
            have lb3 := (LB.out).open_ 0; have lb4 := (LB.out).open_ 1; have lb5 := (LB.out).open_ 2
            refine wpAnyH_ready (rs := [6]) (by kernel_rfl) (by simp) ?_
            refine AllReadyH.cons (at_list rfl) (fun K hK => ?_) AllReadyH.nil
            go_simp
            refine hK.out _ _ ?_ (fun hHeld => ?_)
            · exact keep6 (bput3 QQ.out leA _ _ _) HS0.out
            clear hK K
            try simp only [Act.put, List.setIfInBounds_toArray, List.set_cons_zero, List.set_cons_succ]
            refine wpAnyH_ready (rs := [7]) (by kernel_rfl) (by simp) ?_
            refine AllReadyH.cons (at_list rfl) (fun K hK => ?_) AllReadyH.nil
            go_simp
            refine hK.out _ _ ?_ (fun hHeld => ?_)
            · exact keep6 (bput3 (bput3 QQ.out leA _ _ _) leB _ _ _) HS0.out
            clear hK K
            try simp only [Act.put, List.setIfInBounds_toArray, List.set_cons_zero, List.set_cons_succ]
            refine wpAnyH_done (by kernel_rfl) ?_ _
            refine NoPanic.normal ?_
            go_wp2_with fail
            go_meet
            exact ⟨_, _, rfl, rfl, ((LA.out).put3 _ _ _).aside3 neB _ _ _, ((LB.out).aside3 neA _ _ _).put3 _ _ _, bput3 (bput3 QQ.out leA _ _ _) leB _ _ _⟩
          exact AllReadyH.nil
        exact AllReadyH.nil
      exact AllReadyH.nil
    refine AllReadyH.cons (at_list rfl) (fun K hK => ?_) ?_
    · go_simp
      refine hK.out _ _ ?_ (fun hHeld => ?_)
      · exact keep6 (bdrew (bnew W0 (.cells #[.int .i64 0, .int .i64 0, .bool false] 24))) HS0.out
      clear hK K
      try simp only [Act.put, List.setIfInBounds_toArray, List.set_cons_zero, List.set_cons_succ]
      refine wpAnyH_ready (rs := [1, 4]) (by kernel_rfl) (by simp) ?_
      refine AllReadyH.cons (at_list rfl) (fun K hK => ?_) ?_
      · go_simp
        refine (OW0.out _).mono ?_
        rintro e w1 ⟨rfl, hb1⟩
        have Q1 := Lib.hid (bstep (bdrew (bnew W0 (.cells #[.int .i64 0, .int .i64 0, .bool false] 24))) hb1)
        have KB1 := Lib.hid (((Holds.fresh W0 24 #[.int .i64 0, .int .i64 0, .bool false] (g := W0.heap.size) (by simp)).drew).keptB hb1)
        go_wp2_with fail
        refine hK.out _ _ ?_ (fun hHeld => ?_)
        · exact keep6 Q1.out HS0.out
        clear hK K
        try simp only [Act.put, List.setIfInBounds_toArray, List.set_cons_zero, List.set_cons_succ]
        refine wpAnyH_ready (rs := [3, 4]) (by kernel_rfl) (by simp) ?_
        refine AllReadyH.cons (at_list rfl) (fun K hK => ?_) ?_
        · go_simp
          refine (OW1.out _).mono ?_
          rintro e w2 ⟨rfl, hb2⟩
          have Q2 := Lib.hid (bstep (Q1.out) hb2)
          have KB2 := Lib.hid ((KB1.out).keptB hb2)
          go_wp2_with fail
          refine hK.out _ _ ?_ (fun hHeld => ?_)
          · exact keep6 Q2.out HS0.out
          clear hK K
          try simp only [Act.put, List.setIfInBounds_toArray, List.set_cons_zero, List.set_cons_succ]
          refine wpAnyH_ready (rs := [4]) (by kernel_rfl) (by simp) ?_
          refine AllReadyH.cons (at_list rfl) (fun K hK => ?_) ?_
          · go_simp
            refine hK.out _ _ ?_ (fun hHeld => ?_)
            · exact keep6 (bstep (Q2.out) (bnew _ (.cells #[.int .i64 0, .int .i64 0, .bool false] 24))) HS0.out
            clear hK K
            try simp only [Act.put, List.setIfInBounds_toArray, List.set_cons_zero, List.set_cons_succ]
            have LA := Lib.hid (Holds.fresh w2 24 #[.int .i64 0, .int .i64 0, .bool false] (g := w2.heap.size) (by simp))
            have LB := Lib.hid ((KB2.out).laid (.cells #[.int .i64 0, .int .i64 0, .bool false] 24))
            have QQ := Lib.hid (bstep (Q2.out) (bnew _ (.cells #[.int .i64 0, .int .i64 0, .bool false] 24)))
            have sz1 := (Q1.out).size
            have sz2 := (Q2.out).size
            have sz3 := hb2.size
            try simp at sz3
            have leA : W0.heap.size ≤ w2.heap.size := by omega
            have leB : W0.heap.size ≤ W0.heap.size := by omega
            have neA : ¬ (w2.heap.size = W0.heap.size) := by first | omega | (have := hb1.size; simp at this; omega)
            have neB : ¬ (W0.heap.size = w2.heap.size) := fun h => neA h.symm
            clear sz1 sz2 sz3
            generalize (w2.alloc (.cells #[.int .i64 0, .int .i64 0, .bool false] 24)) = V at *
            have la0 := (LA.out).reads (i := 0) rfl; have la1 := (LA.out).reads (i := 1) rfl; have la2 := (LA.out).reads (i := 2) rfl
            have lb0 := (LB.out).reads (i := 0) rfl; have lb1 := (LB.out).reads (i := 1) rfl; have lb2 := (LB.out).reads (i := 2) rfl
            have la3 := (LA.out).open_ 0; have la4 := (LA.out).open_ 1; have la5 := (LA.out).open_ 2
            have lb3 := (LB.out).open_ 0; have lb4 := (LB.out).open_ 1; have lb5 := (LB.out).open_ 2
            refine wpAnyH_ready (rs := [6]) (by kernel_rfl) (by simp) ?_
            refine AllReadyH.cons (at_list rfl) (fun K hK => ?_) AllReadyH.nil
            go_simp
            refine hK.out _ _ ?_ (fun hHeld => ?_)
            · exact keep6 (bput3 QQ.out leA _ _ _) HS0.out
            clear hK K
            try simp only [Act.put, List.setIfInBounds_toArray, List.set_cons_zero, List.set_cons_succ]
            refine wpAnyH_ready (rs := [7]) (by kernel_rfl) (by simp) ?_
            refine AllReadyH.cons (at_list rfl) (fun K hK => ?_) AllReadyH.nil
            go_simp
            refine hK.out _ _ ?_ (fun hHeld => ?_)
            · exact keep6 (bput3 (bput3 QQ.out leA _ _ _) leB _ _ _) HS0.out
            clear hK K
            try simp only [Act.put, List.setIfInBounds_toArray, List.set_cons_zero, List.set_cons_succ]
            refine wpAnyH_done (by kernel_rfl) ?_ _
            refine NoPanic.normal ?_
            go_wp2_with fail
            go_meet
            exact ⟨_, _, rfl, rfl, ((LA.out).put3 _ _ _).aside3 neB _ _ _, ((LB.out).aside3 neA _ _ _).put3 _ _ _, bput3 (bput3 QQ.out leA _ _ _) leB _ _ _⟩
          exact AllReadyH.nil
        refine AllReadyH.cons (at_list rfl) (fun K hK => ?_) ?_
        · go_simp
          refine hK.out _ _ ?_ (fun hHeld => ?_)
          · exact keep6 (bstep (Q1.out) (bnew _ (.cells #[.int .i64 0, .int .i64 0, .bool false] 24))) HS0.out
          clear hK K
          try simp only [Act.put, List.setIfInBounds_toArray, List.set_cons_zero, List.set_cons_succ]
          refine wpAnyH_ready (rs := [3]) (by kernel_rfl) (by simp) ?_
          refine AllReadyH.cons (at_list rfl) (fun K hK => ?_) ?_
          · go_simp
            refine (OW1.out _).mono ?_
            rintro e w2 ⟨rfl, hb2⟩
            have Q2 := Lib.hid (bstep (bstep (Q1.out) (bnew _ (.cells #[.int .i64 0, .int .i64 0, .bool false] 24))) hb2)
            have KB2 := Lib.hid (((KB1.out).laid (.cells #[.int .i64 0, .int .i64 0, .bool false] 24)).keptB hb2)
            have KA2 := Lib.hid ((Holds.fresh w1 24 #[.int .i64 0, .int .i64 0, .bool false] (g := w1.heap.size) (by simp)).keptB hb2)
            go_wp2_with fail
            refine hK.out _ _ ?_ (fun hHeld => ?_)
            · exact keep6 Q2.out HS0.out
            clear hK K
            try simp only [Act.put, List.setIfInBounds_toArray, List.set_cons_zero, List.set_cons_succ]
            have LA := Lib.hid (KA2.out)
            have LB := Lib.hid (KB2.out)
            have QQ := Lib.hid (Q2.out)
            have sz1 := (Q1.out).size
            have sz2 := (Q2.out).size
            have sz3 := hb2.size
            try simp at sz3
            have leA : W0.heap.size ≤ w1.heap.size := by omega
            have leB : W0.heap.size ≤ W0.heap.size := by omega
            have neA : ¬ (w1.heap.size = W0.heap.size) := by first | omega | (have := hb1.size; simp at this; omega)
            have neB : ¬ (W0.heap.size = w1.heap.size) := fun h => neA h.symm
            clear sz1 sz2 sz3
            have la0 := (LA.out).reads (i := 0) rfl; have la1 := (LA.out).reads (i := 1) rfl; have la2 := (LA.out).reads (i := 2) rfl
            have lb0 := (LB.out).reads (i := 0) rfl; have lb1 := (LB.out).reads (i := 1) rfl; have lb2 := (LB.out).reads (i := 2) rfl
            have la3 := (LA.out).open_ 0; have la4 := (LA.out).open_ 1; have la5 := (LA.out).open_ 2
            have lb3 := (LB.out).open_ 0; have lb4 := (LB.out).open_ 1; have lb5 := (LB.out).open_ 2
            refine wpAnyH_ready (rs := [6]) (by kernel_rfl) (by simp) ?_
            refine AllReadyH.cons (at_list rfl) (fun K hK => ?_) AllReadyH.nil
            go_simp
            refine hK.out _ _ ?_ (fun hHeld => ?_)
            · exact keep6 (bput3 QQ.out leA _ _ _) HS0.out
            clear hK K
            try simp only [Act.put, List.setIfInBounds_toArray, List.set_cons_zero, List.set_cons_succ]
            refine wpAnyH_ready (rs := [7]) (by kernel_rfl) (by simp) ?_
            refine AllReadyH.cons (at_list rfl) (fun K hK => ?_) AllReadyH.nil
            go_simp
            refine hK.out _ _ ?_ (fun hHeld => ?_)
            · exact keep6 (bput3 (bput3 QQ.out leA _ _ _) leB _ _ _) HS0.out
            clear hK K
            try simp only [Act.put, List.setIfInBounds_toArray, List.set_cons_zero, List.set_cons_succ]
            refine wpAnyH_done (by kernel_rfl) ?_ _
            refine NoPanic.normal ?_
            go_wp2_with fail
            go_meet
            exact ⟨_, _, rfl, rfl, ((LA.out).put3 _ _ _).aside3 neB _ _ _, ((LB.out).aside3 neA _ _ _).put3 _ _ _, bput3 (bput3 QQ.out leA _ _ _) leB _ _ _⟩
          exact AllReadyH.nil
        exact AllReadyH.nil
      refine AllReadyH.cons (at_list rfl) (fun K hK => ?_) ?_
      · go_simp
        refine hK.out _ _ ?_ (fun hHeld => ?_)
        · exact keep6 (bdrew (bstep (bnew W0 (.cells #[.int .i64 0, .int .i64 0, .bool false] 24)) (bnew _ (.cells #[.int .i64 0, .int .i64 0, .bool false] 24)))) HS0.out
        clear hK K
        try simp only [Act.put, List.setIfInBounds_toArray, List.set_cons_zero, List.set_cons_succ]
        refine wpAnyH_ready (rs := [1]) (by kernel_rfl) (by simp) ?_
        refine AllReadyH.cons (at_list rfl) (fun K hK => ?_) ?_
        · go_simp
          refine (OW0.out _).mono ?_
          rintro e w1 ⟨rfl, hb1⟩
          have Q1 := Lib.hid (bstep (bdrew (bstep (bnew W0 (.cells #[.int .i64 0, .int .i64 0, .bool false] 24)) (bnew _ (.cells #[.int .i64 0, .int .i64 0, .bool false] 24)))) hb1)
          have KB1 := Lib.hid (((((Holds.fresh W0 24 #[.int .i64 0, .int .i64 0, .bool false] (g := W0.heap.size) (by simp))).laid (.cells #[.int .i64 0, .int .i64 0, .bool false] 24)).drew).keptB hb1)
          have KA1 := Lib.hid (((Holds.fresh (W0.alloc (.cells #[.int .i64 0, .int .i64 0, .bool false] 24)) 24 #[.int .i64 0, .int .i64 0, .bool false] (g := W0.heap.size + 1) (by simp)).drew).keptB hb1)
          go_wp2_with fail
          refine hK.out _ _ ?_ (fun hHeld => ?_)
          · exact keep6 Q1.out HS0.out
          clear hK K
          try simp only [Act.put, List.setIfInBounds_toArray, List.set_cons_zero, List.set_cons_succ]
          refine wpAnyH_ready (rs := [3]) (by kernel_rfl) (by simp) ?_
          refine AllReadyH.cons (at_list rfl) (fun K hK => ?_) ?_
          · go_simp
            refine (OW1.out _).mono ?_
            rintro e w2 ⟨rfl, hb2⟩
            have Q2 := Lib.hid (bstep (Q1.out) hb2)
            have KB2 := Lib.hid ((KB1.out).keptB hb2)
            have KA2 := Lib.hid ((KA1.out).keptB hb2)
            go_wp2_with fail
            refine hK.out _ _ ?_ (fun hHeld => ?_)
            · exact keep6 Q2.out HS0.out
            clear hK K
            try simp only [Act.put, List.setIfInBounds_toArray, List.set_cons_zero, List.set_cons_succ]
            have LA := Lib.hid (KA2.out)
            have LB := Lib.hid (KB2.out)
            have QQ := Lib.hid (Q2.out)
            have sz1 := (Q1.out).size
            have sz2 := (Q2.out).size
            have sz3 := hb2.size
            try simp at sz3
            have leA : W0.heap.size ≤ W0.heap.size + 1 := by omega
            have leB : W0.heap.size ≤ W0.heap.size := by omega
            have neA : ¬ (W0.heap.size + 1 = W0.heap.size) := by first | omega | (have := hb1.size; simp at this; omega)
            have neB : ¬ (W0.heap.size = W0.heap.size + 1) := fun h => neA h.symm
            clear sz1 sz2 sz3
            have la0 := (LA.out).reads (i := 0) rfl; have la1 := (LA.out).reads (i := 1) rfl; have la2 := (LA.out).reads (i := 2) rfl
            have lb0 := (LB.out).reads (i := 0) rfl; have lb1 := (LB.out).reads (i := 1) rfl; have lb2 := (LB.out).reads (i := 2) rfl
            have la3 := (LA.out).open_ 0; have la4 := (LA.out).open_ 1; have la5 := (LA.out).open_ 2
            have lb3 := (LB.out).open_ 0; have lb4 := (LB.out).open_ 1; have lb5 := (LB.out).open_ 2
            refine wpAnyH_ready (rs := [6]) (by kernel_rfl) (by simp) ?_
            refine AllReadyH.cons (at_list rfl) (fun K hK => ?_) AllReadyH.nil
            go_simp
            refine hK.out _ _ ?_ (fun hHeld => ?_)
            · exact keep6 (bput3 QQ.out leA _ _ _) HS0.out
            clear hK K
            try simp only [Act.put, List.setIfInBounds_toArray, List.set_cons_zero, List.set_cons_succ]
            refine wpAnyH_ready (rs := [7]) (by kernel_rfl) (by simp) ?_
            refine AllReadyH.cons (at_list rfl) (fun K hK => ?_) AllReadyH.nil
            go_simp
            refine hK.out _ _ ?_ (fun hHeld => ?_)
            · exact keep6 (bput3 (bput3 QQ.out leA _ _ _) leB _ _ _) HS0.out
            clear hK K
            try simp only [Act.put, List.setIfInBounds_toArray, List.set_cons_zero, List.set_cons_succ]
            refine wpAnyH_done (by kernel_rfl) ?_ _
            refine NoPanic.normal ?_
            go_wp2_with fail
            go_meet
            exact ⟨_, _, rfl, rfl, ((LA.out).put3 _ _ _).aside3 neB _ _ _, ((LB.out).aside3 neA _ _ _).put3 _ _ _, bput3 (bput3 QQ.out leA _ _ _) leB _ _ _⟩
          exact AllReadyH.nil
        exact AllReadyH.nil
      exact AllReadyH.nil
    exact AllReadyH.nil
  case rest =>
    obtain ⟨g7, g8, rfl, rfl, k7, k8, hb⟩ := hcut
    have K7 := Lib.hid k7
    have K8 := Lib.hid k8
    replace K0 := Lib.hid ((K0.out).keptB hb)
    replace K1 := Lib.hid ((K1.out).keptB hb)
    replace HB := Lib.hid (bstep HB.out hb)
    clear k7 k8 hb d00 d01 d02 d10 d11 d12 HS0
    cases hx : X.k
    · rw [hx] at CX
      clear hx
      have x1_0 := (K7.out).reads (i := 0) rfl
      have x1_1 := (K7.out).reads (i := 1) rfl
      have x1_2 := (K7.out).reads (i := 2) rfl
      go_wp2_with fail
      refine (CX.out _).mono ?_
      rintro e w2 ⟨rfl, hw2⟩
      clear x1_0 x1_1 x1_2
      replace K7 := Lib.hid ((K7.out).keptB hw2)
      replace K8 := Lib.hid ((K8.out).keptB hw2)
      replace K0 := Lib.hid ((K0.out).keptB hw2)
      replace K1 := Lib.hid ((K1.out).keptB hw2)
      replace HB := Lib.hid (bstep HB.out hw2)
      clear hw2
      replace K7 := Lib.hid ((K7.out).laid (.cells #[.int .i64 X.lo, .int .i64 X.hi, .bool false] 24))
      replace K8 := Lib.hid ((K8.out).laid (.cells #[.int .i64 X.lo, .int .i64 X.hi, .bool false] 24))
      replace K0 := Lib.hid ((K0.out).laid (.cells #[.int .i64 X.lo, .int .i64 X.hi, .bool false] 24))
      replace K1 := Lib.hid ((K1.out).laid (.cells #[.int .i64 X.lo, .int .i64 X.hi, .bool false] 24))
      have K9 := Lib.hid (Holds.fresh w2 24 #[.int .i64 X.lo, .int .i64 X.hi, .bool false] (g := (w2).heap.size) rfl)
      replace HB := Lib.hid (bstep HB.out (bnew _ (.cells #[.int .i64 X.lo, .int .i64 X.hi, .bool false] 24)))
      go_wp2_with fail
      have x3_0 := (K9.out).reads (i := 0) rfl
      have x3_1 := (K9.out).reads (i := 1) rfl
      have x3_2 := (K9.out).reads (i := 2) rfl
      refine wp_region_held_drew (S := fun v => v.cell? ⟨(w2).heap.size, 0, none⟩ = some (.int .i64 X.lo) ∧ v.cell? ⟨(w2).heap.size, 1, none⟩ = some (.int .i64 X.hi) ∧ v.cell? ⟨(w2).heap.size, 2, none⟩ = some (.bool false)) (by kernel_rfl) ?_ (fun hHeld => ?_)
      · exact ⟨x3_0, x3_1, x3_2⟩
      refine wpAnyH_take (i := 0) (v := .pointer (some ⟨(w2).heap.size, 2, none⟩)) (at_list rfl) (by kernel_rfl) (by kernel_rfl) (by kernel_rfl) (fun _ _ _ h => h) (Or.inl ⟨by rfl, ?_⟩) (by assumption) ?_
      · intro v hSv
        obtain ⟨q0, q1, q2⟩ := hSv
        go_simp
      try simp only [Act.put, List.setIfInBounds_toArray, List.set_cons_zero, List.set_cons_succ]
      refine wpAnyH_take (i := 1) (v := .bool false) (at_list rfl) (by kernel_rfl) (by kernel_rfl) (by kernel_rfl) (fun _ _ _ h => h) (Or.inl ⟨by rfl, ?_⟩) (by assumption) ?_
      · intro v hSv
        obtain ⟨q0, q1, q2⟩ := hSv
        go_simp
      try simp only [Act.put, List.setIfInBounds_toArray, List.set_cons_zero, List.set_cons_succ]
      refine wpAnyH_take (i := 2) (v := .bool false) (at_list rfl) (by kernel_rfl) (by kernel_rfl) (by kernel_rfl) (fun _ _ _ h => h) (Or.inl ⟨by rfl, ?_⟩) (by assumption) ?_
      · intro v hSv
        obtain ⟨q0, q1, q2⟩ := hSv
        go_simp
      try simp only [Act.put, List.setIfInBounds_toArray, List.set_cons_zero, List.set_cons_succ]
      refine wpAnyH_take (i := 3) (v := undef) (at_list rfl) (by kernel_rfl) (by kernel_rfl) (by kernel_rfl) (fun _ _ _ h => h) (Or.inr ⟨by rfl, rfl⟩) (by assumption) ?_
      try simp only [Act.put, List.setIfInBounds_toArray, List.set_cons_zero, List.set_cons_succ]
      refine wpAnyH_take (i := 4) (v := undef) (at_list rfl) (by kernel_rfl) (by kernel_rfl) (by kernel_rfl) (fun _ _ _ h => h) (Or.inr ⟨by rfl, rfl⟩) (by assumption) ?_
      try simp only [Act.put, List.setIfInBounds_toArray, List.set_cons_zero, List.set_cons_succ]
      refine wpAnyH_take (i := 5) (v := undef) (at_list rfl) (by kernel_rfl) (by kernel_rfl) (by kernel_rfl) (fun _ _ _ h => h) (Or.inr ⟨by rfl, rfl⟩) (by assumption) ?_
      try simp only [Act.put, List.setIfInBounds_toArray, List.set_cons_zero, List.set_cons_succ]
      refine wpAnyH_take (i := 6) (v := .bool false) (at_list rfl) (by kernel_rfl) (by kernel_rfl) (by kernel_rfl) (fun _ _ _ h => h) (Or.inl ⟨by rfl, ?_⟩) (by assumption) ?_
      · intro v hSv
        obtain ⟨q0, q1, q2⟩ := hSv
        go_simp
      try simp only [Act.put, List.setIfInBounds_toArray, List.set_cons_zero, List.set_cons_succ]
      refine wpAnyH_take (i := 7) (v := .bool false) (at_list rfl) (by kernel_rfl) (by kernel_rfl) (by kernel_rfl) (fun _ _ _ h => h) (Or.inl ⟨by rfl, ?_⟩) (by assumption) ?_
      · intro v hSv
        obtain ⟨q0, q1, q2⟩ := hSv
        go_simp
      try simp only [Act.put, List.setIfInBounds_toArray, List.set_cons_zero, List.set_cons_succ]
      refine wpAnyH_take (i := 8) (v := undef) (at_list rfl) (by kernel_rfl) (by kernel_rfl) (by kernel_rfl) (fun _ _ _ h => h) (Or.inr ⟨by rfl, rfl⟩) (by assumption) ?_
      try simp only [Act.put, List.setIfInBounds_toArray, List.set_cons_zero, List.set_cons_succ]
      refine wpAnyH_take (i := 9) (v := undef) (at_list rfl) (by kernel_rfl) (by kernel_rfl) (by kernel_rfl) (fun _ _ _ h => h) (Or.inr ⟨by rfl, rfl⟩) (by assumption) ?_
      try simp only [Act.put, List.setIfInBounds_toArray, List.set_cons_zero, List.set_cons_succ]
      refine wpAnyH_take (i := 10) (v := undef) (at_list rfl) (by kernel_rfl) (by kernel_rfl) (by kernel_rfl) (fun _ _ _ h => h) (Or.inr ⟨by rfl, rfl⟩) (by assumption) ?_
      try simp only [Act.put, List.setIfInBounds_toArray, List.set_cons_zero, List.set_cons_succ]
      refine wpAnyH_take (i := 11) (v := undef) (at_list rfl) (by kernel_rfl) (by kernel_rfl) (by kernel_rfl) (fun _ _ _ h => h) (Or.inr ⟨by rfl, rfl⟩) (by assumption) ?_
      try simp only [Act.put, List.setIfInBounds_toArray, List.set_cons_zero, List.set_cons_succ]
      refine wpAnyH_take (i := 12) (v := undef) (at_list rfl) (by kernel_rfl) (by kernel_rfl) (by kernel_rfl) (fun _ _ _ h => h) (Or.inr ⟨by rfl, rfl⟩) (by assumption) ?_
      try simp only [Act.put, List.setIfInBounds_toArray, List.set_cons_zero, List.set_cons_succ]
      refine wpAnyH_take (i := 13) (v := undef) (at_list rfl) (by kernel_rfl) (by kernel_rfl) (by kernel_rfl) (fun _ _ _ h => h) (Or.inr ⟨by rfl, rfl⟩) (by assumption) ?_
      try simp only [Act.put, List.setIfInBounds_toArray, List.set_cons_zero, List.set_cons_succ]
      refine wpAnyH_take (i := 14) (v := .bool false) (at_list rfl) (by kernel_rfl) (by kernel_rfl) (by kernel_rfl) (fun _ _ _ h => h) (Or.inl ⟨by rfl, ?_⟩) (by assumption) ?_
      · intro v hSv
        obtain ⟨q0, q1, q2⟩ := hSv
        go_simp
      try simp only [Act.put, List.setIfInBounds_toArray, List.set_cons_zero, List.set_cons_succ]
      refine wpAnyH_done (by kernel_rfl) ?_ _
      have HV5 := Lib.hid (bdrew (Below.refl ((w2.alloc (.cells #[.int .i64 X.lo, .int .i64 X.hi, .bool false] 24))).heap.size (w2.alloc (.cells #[.int .i64 X.lo, .int .i64 X.hi, .bool false] 24))))
      clear x3_0 x3_1 x3_2
      replace K7 := Lib.hid ((K7.out).keptB HV5.out)
      replace K8 := Lib.hid ((K8.out).keptB HV5.out)
      replace K0 := Lib.hid ((K0.out).keptB HV5.out)
      replace K1 := Lib.hid ((K1.out).keptB HV5.out)
      replace K9 := Lib.hid ((K9.out).keptB HV5.out)
      replace HB := Lib.hid (bstep HB.out HV5.out)
      clear HV5
      cases hy : Y.k
      · rw [hy] at CY
        clear hy
        have x6_0 := (K7.out).reads (i := 0) rfl
        have x6_1 := (K7.out).reads (i := 1) rfl
        have x6_2 := (K7.out).reads (i := 2) rfl
        have x7_0 := (K8.out).reads (i := 0) rfl
        have x7_1 := (K8.out).reads (i := 1) rfl
        have x7_2 := (K8.out).reads (i := 2) rfl
        go_wp2_with fail
        refine (CY.out _).mono ?_
        rintro e w8 ⟨rfl, hw8⟩
        clear x6_0 x6_1 x6_2 x7_0 x7_1 x7_2
        replace K7 := Lib.hid ((K7.out).keptB hw8)
        replace K8 := Lib.hid ((K8.out).keptB hw8)
        replace K0 := Lib.hid ((K0.out).keptB hw8)
        replace K1 := Lib.hid ((K1.out).keptB hw8)
        replace K9 := Lib.hid ((K9.out).keptB hw8)
        replace HB := Lib.hid (bstep HB.out hw8)
        clear hw8
        replace K7 := Lib.hid ((K7.out).laid (.cells #[.int .i64 Y.lo, .int .i64 Y.hi, .bool false] 24))
        replace K8 := Lib.hid ((K8.out).laid (.cells #[.int .i64 Y.lo, .int .i64 Y.hi, .bool false] 24))
        replace K0 := Lib.hid ((K0.out).laid (.cells #[.int .i64 Y.lo, .int .i64 Y.hi, .bool false] 24))
        replace K1 := Lib.hid ((K1.out).laid (.cells #[.int .i64 Y.lo, .int .i64 Y.hi, .bool false] 24))
        replace K9 := Lib.hid ((K9.out).laid (.cells #[.int .i64 Y.lo, .int .i64 Y.hi, .bool false] 24))
        have K10 := Lib.hid (Holds.fresh w8 24 #[.int .i64 Y.lo, .int .i64 Y.hi, .bool false] (g := (w8).heap.size) rfl)
        replace HB := Lib.hid (bstep HB.out (bnew _ (.cells #[.int .i64 Y.lo, .int .i64 Y.hi, .bool false] 24)))
        go_wp2_with fail
        have x9_0 := (K10.out).reads (i := 0) rfl
        have x9_1 := (K10.out).reads (i := 1) rfl
        have x9_2 := (K10.out).reads (i := 2) rfl
        refine wp_region_held_drew (S := fun v => v.cell? ⟨(w8).heap.size, 0, none⟩ = some (.int .i64 Y.lo) ∧ v.cell? ⟨(w8).heap.size, 1, none⟩ = some (.int .i64 Y.hi) ∧ v.cell? ⟨(w8).heap.size, 2, none⟩ = some (.bool false)) (by kernel_rfl) ?_ (fun hHeld => ?_)
        · exact ⟨x9_0, x9_1, x9_2⟩
        refine wpAnyH_ready (rs := [0]) (by kernel_rfl) (by simp) ?_
        refine AllReadyH.cons (at_list rfl) (fun K hK => ?_) AllReadyH.nil
        go_simp
        refine (alive3_any _).mono ?_
        rintro e v10_0 ⟨rfl, hv10_0⟩
        go_wp2_with fail
        refine hK.out _ _ ?_ (fun hHeld => ?_)
        · exact keep3 hv10_0 (by assumption)
        clear hK K
        try simp only [Act.put, List.setIfInBounds_toArray, List.set_cons_zero, List.set_cons_succ]
        refine wpAnyH_take (i := 1) (v := .bool true) (at_list rfl) (by kernel_rfl) (by kernel_rfl) (by kernel_rfl) (fun _ _ _ h => h) (Or.inl ⟨by rfl, ?_⟩) (by assumption) ?_
        · intro v hSv
          obtain ⟨q0, q1, q2⟩ := hSv
          go_simp
        try simp only [Act.put, List.setIfInBounds_toArray, List.set_cons_zero, List.set_cons_succ]
        refine wpAnyH_take (i := 2) (v := .pointer (some ⟨(w8).heap.size, 2, none⟩)) (at_list rfl) (by kernel_rfl) (by kernel_rfl) (by kernel_rfl) (fun _ _ _ h => h) (Or.inl ⟨by rfl, ?_⟩) (by assumption) ?_
        · intro v hSv
          obtain ⟨q0, q1, q2⟩ := hSv
          go_simp
        try simp only [Act.put, List.setIfInBounds_toArray, List.set_cons_zero, List.set_cons_succ]
        refine wpAnyH_take (i := 3) (v := .bool false) (at_list rfl) (by kernel_rfl) (by kernel_rfl) (by kernel_rfl) (fun _ _ _ h => h) (Or.inl ⟨by rfl, ?_⟩) (by assumption) ?_
        · intro v hSv
          obtain ⟨q0, q1, q2⟩ := hSv
          go_simp
        try simp only [Act.put, List.setIfInBounds_toArray, List.set_cons_zero, List.set_cons_succ]
        refine wpAnyH_take (i := 4) (v := .bool true) (at_list rfl) (by kernel_rfl) (by kernel_rfl) (by kernel_rfl) (fun _ _ _ h => h) (Or.inl ⟨by rfl, ?_⟩) (by assumption) ?_
        · intro v hSv
          obtain ⟨q0, q1, q2⟩ := hSv
          go_simp
        try simp only [Act.put, List.setIfInBounds_toArray, List.set_cons_zero, List.set_cons_succ]
        refine wpAnyH_take (i := 5) (v := .bool true) (at_list rfl) (by kernel_rfl) (by kernel_rfl) (by kernel_rfl) (fun _ _ _ h => h) (Or.inl ⟨by rfl, ?_⟩) (by assumption) ?_
        · intro v hSv
          obtain ⟨q0, q1, q2⟩ := hSv
          go_simp
        try simp only [Act.put, List.setIfInBounds_toArray, List.set_cons_zero, List.set_cons_succ]
        refine wpAnyH_take (i := 6) (v := undef) (at_list rfl) (by kernel_rfl) (by kernel_rfl) (by kernel_rfl) (fun _ _ _ h => h) (Or.inr ⟨by rfl, rfl⟩) (by assumption) ?_
        try simp only [Act.put, List.setIfInBounds_toArray, List.set_cons_zero, List.set_cons_succ]
        refine wpAnyH_take (i := 7) (v := undef) (at_list rfl) (by kernel_rfl) (by kernel_rfl) (by kernel_rfl) (fun _ _ _ h => h) (Or.inr ⟨by rfl, rfl⟩) (by assumption) ?_
        try simp only [Act.put, List.setIfInBounds_toArray, List.set_cons_zero, List.set_cons_succ]
        refine wpAnyH_take (i := 8) (v := undef) (at_list rfl) (by kernel_rfl) (by kernel_rfl) (by kernel_rfl) (fun _ _ _ h => h) (Or.inr ⟨by rfl, rfl⟩) (by assumption) ?_
        try simp only [Act.put, List.setIfInBounds_toArray, List.set_cons_zero, List.set_cons_succ]
        refine wpAnyH_take (i := 9) (v := undef) (at_list rfl) (by kernel_rfl) (by kernel_rfl) (by kernel_rfl) (fun _ _ _ h => h) (Or.inr ⟨by rfl, rfl⟩) (by assumption) ?_
        try simp only [Act.put, List.setIfInBounds_toArray, List.set_cons_zero, List.set_cons_succ]
        refine wpAnyH_take (i := 10) (v := undef) (at_list rfl) (by kernel_rfl) (by kernel_rfl) (by kernel_rfl) (fun _ _ _ h => h) (Or.inr ⟨by rfl, rfl⟩) (by assumption) ?_
        try simp only [Act.put, List.setIfInBounds_toArray, List.set_cons_zero, List.set_cons_succ]
        refine wpAnyH_take (i := 11) (v := .bool true) (at_list rfl) (by kernel_rfl) (by kernel_rfl) (by kernel_rfl) (fun _ _ _ h => h) (Or.inl ⟨by rfl, ?_⟩) (by assumption) ?_
        · intro v hSv
          obtain ⟨q0, q1, q2⟩ := hSv
          go_simp
        try simp only [Act.put, List.setIfInBounds_toArray, List.set_cons_zero, List.set_cons_succ]
        refine wpAnyH_take (i := 12) (v := .bool true) (at_list rfl) (by kernel_rfl) (by kernel_rfl) (by kernel_rfl) (fun _ _ _ h => h) (Or.inl ⟨by rfl, ?_⟩) (by assumption) ?_
        · intro v hSv
          obtain ⟨q0, q1, q2⟩ := hSv
          go_simp
        try simp only [Act.put, List.setIfInBounds_toArray, List.set_cons_zero, List.set_cons_succ]
        refine wpAnyH_take (i := 13) (v := .bool true) (at_list rfl) (by kernel_rfl) (by kernel_rfl) (by kernel_rfl) (fun _ _ _ h => h) (Or.inl ⟨by rfl, ?_⟩) (by assumption) ?_
        · intro v hSv
          obtain ⟨q0, q1, q2⟩ := hSv
          go_simp
        try simp only [Act.put, List.setIfInBounds_toArray, List.set_cons_zero, List.set_cons_succ]
        refine wpAnyH_done (by kernel_rfl) ?_ _
        have HV11 := Lib.hid (bstep (bdrew (Below.refl ((w8.alloc (.cells #[.int .i64 Y.lo, .int .i64 Y.hi, .bool false] 24))).heap.size (w8.alloc (.cells #[.int .i64 Y.lo, .int .i64 Y.hi, .bool false] 24)))) hv10_0)
        clear x9_0 x9_1 x9_2
        replace K7 := Lib.hid ((K7.out).keptB HV11.out)
        replace K8 := Lib.hid ((K8.out).keptB HV11.out)
        replace K0 := Lib.hid ((K0.out).keptB HV11.out)
        replace K1 := Lib.hid ((K1.out).keptB HV11.out)
        replace K9 := Lib.hid ((K9.out).keptB HV11.out)
        replace K10 := Lib.hid ((K10.out).keptB HV11.out)
        replace HB := Lib.hid (bstep HB.out HV11.out)
        clear hv10_0 HV11
        go_wp2
        go_ret
        exact ⟨rfl, HB.out⟩
      · have HT := Lib.hid (hYk.out hy)
        rw [HT.out] at CW
        rw [hy] at CY CZ
        clear hy
        have x6_0 := (K7.out).reads (i := 0) rfl
        have x6_1 := (K7.out).reads (i := 1) rfl
        have x6_2 := (K7.out).reads (i := 2) rfl
        have x7_0 := (K8.out).reads (i := 0) rfl
        have x7_1 := (K8.out).reads (i := 1) rfl
        have x7_2 := (K8.out).reads (i := 2) rfl
        go_wp2_with fail
        refine (CY.out _).mono ?_
        rintro e w8 ⟨rfl, hw8⟩
        clear x6_0 x6_1 x6_2 x7_0 x7_1 x7_2
        replace K7 := Lib.hid ((K7.out).keptB hw8)
        replace K8 := Lib.hid ((K8.out).keptB hw8)
        replace K0 := Lib.hid ((K0.out).keptB hw8)
        replace K1 := Lib.hid ((K1.out).keptB hw8)
        replace K9 := Lib.hid ((K9.out).keptB hw8)
        replace HB := Lib.hid (bstep HB.out hw8)
        clear hw8
        replace K7 := Lib.hid ((K7.out).laid (.cells #[.int .i64 Y.lo, .int .i64 Y.hi, .bool true] 24))
        replace K8 := Lib.hid ((K8.out).laid (.cells #[.int .i64 Y.lo, .int .i64 Y.hi, .bool true] 24))
        replace K0 := Lib.hid ((K0.out).laid (.cells #[.int .i64 Y.lo, .int .i64 Y.hi, .bool true] 24))
        replace K1 := Lib.hid ((K1.out).laid (.cells #[.int .i64 Y.lo, .int .i64 Y.hi, .bool true] 24))
        replace K9 := Lib.hid ((K9.out).laid (.cells #[.int .i64 Y.lo, .int .i64 Y.hi, .bool true] 24))
        have K10 := Lib.hid (Holds.fresh w8 24 #[.int .i64 Y.lo, .int .i64 Y.hi, .bool true] (g := (w8).heap.size) rfl)
        replace HB := Lib.hid (bstep HB.out (bnew _ (.cells #[.int .i64 Y.lo, .int .i64 Y.hi, .bool true] 24)))
        go_wp2_with fail
        have x9_0 := (K7.out).reads (i := 0) rfl
        have x9_1 := (K7.out).reads (i := 1) rfl
        have x9_2 := (K7.out).reads (i := 2) rfl
        have x10_0 := (K8.out).reads (i := 0) rfl
        have x10_1 := (K8.out).reads (i := 1) rfl
        have x10_2 := (K8.out).reads (i := 2) rfl
        have x11_0 := (K10.out).reads (i := 0) rfl
        have x11_1 := (K10.out).reads (i := 1) rfl
        have x11_2 := (K10.out).reads (i := 2) rfl
        go_region_held3 (fun v => v.cell? ⟨g7, 0, none⟩ = some (.int .i64 s.lo) ∧ v.cell? ⟨g7, 1, none⟩ = some (.int .i64 s.hi) ∧ v.cell? ⟨g7, 2, none⟩ = some (.bool s.k) ∧ v.cell? ⟨g8, 0, none⟩ = some (.int .i64 o.lo) ∧ v.cell? ⟨g8, 1, none⟩ = some (.int .i64 o.hi) ∧ v.cell? ⟨g8, 2, none⟩ = some (.bool o.k) ∧ v.cell? ⟨(w8).heap.size, 0, none⟩ = some (.int .i64 Y.lo) ∧ v.cell? ⟨(w8).heap.size, 1, none⟩ = some (.int .i64 Y.hi) ∧ v.cell? ⟨(w8).heap.size, 2, none⟩ = some (.bool true))
          (first | (with_reducible exact keep9 (by assumption) (by assumption)) | (with_reducible exact keep9 (bnew _ _) (by assumption)) | (exact ⟨x9_0, x9_1, x9_2, x10_0, x10_1, x10_2, x11_0, x11_1, x11_2⟩) | go_keep)
          (first
            | (go_at_call 23; (with_reducible refine (alive3_any _).mono ?_); rintro e v12_0 ⟨rfl, hv12_0⟩)
            | (go_at_call 15; (with_reducible refine (CZ.out _).mono ?_); rintro e v12_1 ⟨rfl, hv12_1⟩)
            | (go_at_call 28; (with_reducible refine (CW.out _).mono ?_); rintro e v12_2 ⟨rfl, hv12_2⟩))
        have HV13 := Lib.hid (bstep (bstep (bstep (bdrew (Below.refl ((w8.alloc (.cells #[.int .i64 Y.lo, .int .i64 Y.hi, .bool true] 24))).heap.size (w8.alloc (.cells #[.int .i64 Y.lo, .int .i64 Y.hi, .bool true] 24)))) hv12_0) hv12_1) hv12_2)
        clear x9_0 x9_1 x9_2 x10_0 x10_1 x10_2 x11_0 x11_1 x11_2
        replace K7 := Lib.hid ((K7.out).keptB HV13.out)
        replace K8 := Lib.hid ((K8.out).keptB HV13.out)
        replace K0 := Lib.hid ((K0.out).keptB HV13.out)
        replace K1 := Lib.hid ((K1.out).keptB HV13.out)
        replace K9 := Lib.hid ((K9.out).keptB HV13.out)
        replace K10 := Lib.hid ((K10.out).keptB HV13.out)
        replace HB := Lib.hid (bstep HB.out HV13.out)
        clear hv12_0 hv12_1 hv12_2 HV13
        go_wp2
        go_ret
        exact ⟨rfl, HB.out⟩
    · obtain ⟨hs1, hs2⟩ := hXk.out hx
      have hs3 := smallB_iff.1 hs1
      obtain ⟨hs4, hs5⟩ := hs3
      rw [hs2] at CB
      have wr : IntKind.i64.wrap (-n) = -n := by rw [IntKind.wrap_i64]; omega
      have CS : Hid (∀ g v, v.cell? ⟨g, 0, none⟩ = some (.int .i64 n) → Calls Try.prog 44 #[.slice (some ⟨g, 0, none⟩) 1 1] v fun e w' => e = .returned (.bool true) ∧ v = w') := by
        intro g v h
        have h2 := small_1h n g v h
        rw [hs1] at h2
        exact h2
      rw [hx] at CX CB
      clear hx hs1 hs2
      have x1_0 := (K7.out).reads (i := 0) rfl
      have x1_1 := (K7.out).reads (i := 1) rfl
      have x1_2 := (K7.out).reads (i := 2) rfl
      go_wp2_with fail
      refine (CX.out _).mono ?_
      rintro e w2 ⟨rfl, hw2⟩
      clear x1_0 x1_1 x1_2
      replace K7 := Lib.hid ((K7.out).keptB hw2)
      replace K8 := Lib.hid ((K8.out).keptB hw2)
      replace K0 := Lib.hid ((K0.out).keptB hw2)
      replace K1 := Lib.hid ((K1.out).keptB hw2)
      replace HB := Lib.hid (bstep HB.out hw2)
      clear hw2
      replace K7 := Lib.hid ((K7.out).laid (.cells #[.int .i64 X.lo, .int .i64 X.hi, .bool true] 24))
      replace K8 := Lib.hid ((K8.out).laid (.cells #[.int .i64 X.lo, .int .i64 X.hi, .bool true] 24))
      replace K0 := Lib.hid ((K0.out).laid (.cells #[.int .i64 X.lo, .int .i64 X.hi, .bool true] 24))
      replace K1 := Lib.hid ((K1.out).laid (.cells #[.int .i64 X.lo, .int .i64 X.hi, .bool true] 24))
      have K9 := Lib.hid (Holds.fresh w2 24 #[.int .i64 X.lo, .int .i64 X.hi, .bool true] (g := (w2).heap.size) rfl)
      replace HB := Lib.hid (bstep HB.out (bnew _ (.cells #[.int .i64 X.lo, .int .i64 X.hi, .bool true] 24)))
      go_wp2_with fail
      have x3_0 := (K9.out).reads (i := 0) rfl
      have x3_1 := (K9.out).reads (i := 1) rfl
      have x3_2 := (K9.out).reads (i := 2) rfl
      have x4_0 := (K7.out).reads (i := 0) rfl
      have x4_1 := (K7.out).reads (i := 1) rfl
      have x4_2 := (K7.out).reads (i := 2) rfl
      go_region_held3 (fun v => v.cell? ⟨(w2).heap.size, 0, none⟩ = some (.int .i64 X.lo) ∧ v.cell? ⟨(w2).heap.size, 1, none⟩ = some (.int .i64 X.hi) ∧ v.cell? ⟨(w2).heap.size, 2, none⟩ = some (.bool true) ∧ v.cell? ⟨g7, 0, none⟩ = some (.int .i64 s.lo) ∧ v.cell? ⟨g7, 1, none⟩ = some (.int .i64 s.hi) ∧ v.cell? ⟨g7, 2, none⟩ = some (.bool s.k))
        (first | (with_reducible exact keep6 (by assumption) (by assumption)) | (with_reducible exact keep6 (bnew _ _) (by assumption)) | (exact ⟨x3_0, x3_1, x3_2, x4_0, x4_1, x4_2⟩) | go_keep)
        (first
          | (go_at_call 44; (with_reducible refine (CS.out _ _ ?_).mono ?_); (simp); rintro e v5_0 ⟨rfl, rfl⟩)
          | (go_at_call 24; (with_reducible refine (CB.out _).mono ?_); rintro e v5_1 ⟨rfl, hv5_1⟩))
      have HV6 := Lib.hid (bstep (bdrew (bnew (w2.alloc (.cells #[.int .i64 X.lo, .int .i64 X.hi, .bool true] 24)) (.cells #[.int .i64 n] 3))) hv5_1)
      clear x3_0 x3_1 x3_2 x4_0 x4_1 x4_2
      replace K7 := Lib.hid ((K7.out).keptB HV6.out)
      replace K8 := Lib.hid ((K8.out).keptB HV6.out)
      replace K0 := Lib.hid ((K0.out).keptB HV6.out)
      replace K1 := Lib.hid ((K1.out).keptB HV6.out)
      replace K9 := Lib.hid ((K9.out).keptB HV6.out)
      replace HB := Lib.hid (bstep HB.out HV6.out)
      clear hv5_1 HV6
      cases hy : Y.k
      · rw [hy] at CY
        clear hy
        have x7_0 := (K7.out).reads (i := 0) rfl
        have x7_1 := (K7.out).reads (i := 1) rfl
        have x7_2 := (K7.out).reads (i := 2) rfl
        have x8_0 := (K8.out).reads (i := 0) rfl
        have x8_1 := (K8.out).reads (i := 1) rfl
        have x8_2 := (K8.out).reads (i := 2) rfl
        go_wp2_with fail
        refine (CY.out _).mono ?_
        rintro e w9 ⟨rfl, hw9⟩
        clear x7_0 x7_1 x7_2 x8_0 x8_1 x8_2
        replace K7 := Lib.hid ((K7.out).keptB hw9)
        replace K8 := Lib.hid ((K8.out).keptB hw9)
        replace K0 := Lib.hid ((K0.out).keptB hw9)
        replace K1 := Lib.hid ((K1.out).keptB hw9)
        replace K9 := Lib.hid ((K9.out).keptB hw9)
        replace HB := Lib.hid (bstep HB.out hw9)
        clear hw9
        replace K7 := Lib.hid ((K7.out).laid (.cells #[.int .i64 Y.lo, .int .i64 Y.hi, .bool false] 24))
        replace K8 := Lib.hid ((K8.out).laid (.cells #[.int .i64 Y.lo, .int .i64 Y.hi, .bool false] 24))
        replace K0 := Lib.hid ((K0.out).laid (.cells #[.int .i64 Y.lo, .int .i64 Y.hi, .bool false] 24))
        replace K1 := Lib.hid ((K1.out).laid (.cells #[.int .i64 Y.lo, .int .i64 Y.hi, .bool false] 24))
        replace K9 := Lib.hid ((K9.out).laid (.cells #[.int .i64 Y.lo, .int .i64 Y.hi, .bool false] 24))
        have K10 := Lib.hid (Holds.fresh w9 24 #[.int .i64 Y.lo, .int .i64 Y.hi, .bool false] (g := (w9).heap.size) rfl)
        replace HB := Lib.hid (bstep HB.out (bnew _ (.cells #[.int .i64 Y.lo, .int .i64 Y.hi, .bool false] 24)))
        go_wp2_with fail
        have x10_0 := (K10.out).reads (i := 0) rfl
        have x10_1 := (K10.out).reads (i := 1) rfl
        have x10_2 := (K10.out).reads (i := 2) rfl
        refine wp_region_held_drew (S := fun v => v.cell? ⟨(w9).heap.size, 0, none⟩ = some (.int .i64 Y.lo) ∧ v.cell? ⟨(w9).heap.size, 1, none⟩ = some (.int .i64 Y.hi) ∧ v.cell? ⟨(w9).heap.size, 2, none⟩ = some (.bool false)) (by kernel_rfl) ?_ (fun hHeld => ?_)
        · exact ⟨x10_0, x10_1, x10_2⟩
        refine wpAnyH_ready (rs := [0]) (by kernel_rfl) (by simp) ?_
        refine AllReadyH.cons (at_list rfl) (fun K hK => ?_) AllReadyH.nil
        go_simp
        refine (alive3_any _).mono ?_
        rintro e v11_0 ⟨rfl, hv11_0⟩
        go_wp2_with fail
        refine hK.out _ _ ?_ (fun hHeld => ?_)
        · exact keep3 hv11_0 (by assumption)
        clear hK K
        try simp only [Act.put, List.setIfInBounds_toArray, List.set_cons_zero, List.set_cons_succ]
        refine wpAnyH_take (i := 1) (v := .bool true) (at_list rfl) (by kernel_rfl) (by kernel_rfl) (by kernel_rfl) (fun _ _ _ h => h) (Or.inl ⟨by rfl, ?_⟩) (by assumption) ?_
        · intro v hSv
          obtain ⟨q0, q1, q2⟩ := hSv
          go_simp
        try simp only [Act.put, List.setIfInBounds_toArray, List.set_cons_zero, List.set_cons_succ]
        refine wpAnyH_take (i := 2) (v := .pointer (some ⟨(w9).heap.size, 2, none⟩)) (at_list rfl) (by kernel_rfl) (by kernel_rfl) (by kernel_rfl) (fun _ _ _ h => h) (Or.inl ⟨by rfl, ?_⟩) (by assumption) ?_
        · intro v hSv
          obtain ⟨q0, q1, q2⟩ := hSv
          go_simp
        try simp only [Act.put, List.setIfInBounds_toArray, List.set_cons_zero, List.set_cons_succ]
        refine wpAnyH_take (i := 3) (v := .bool false) (at_list rfl) (by kernel_rfl) (by kernel_rfl) (by kernel_rfl) (fun _ _ _ h => h) (Or.inl ⟨by rfl, ?_⟩) (by assumption) ?_
        · intro v hSv
          obtain ⟨q0, q1, q2⟩ := hSv
          go_simp
        try simp only [Act.put, List.setIfInBounds_toArray, List.set_cons_zero, List.set_cons_succ]
        refine wpAnyH_take (i := 4) (v := .bool true) (at_list rfl) (by kernel_rfl) (by kernel_rfl) (by kernel_rfl) (fun _ _ _ h => h) (Or.inl ⟨by rfl, ?_⟩) (by assumption) ?_
        · intro v hSv
          obtain ⟨q0, q1, q2⟩ := hSv
          go_simp
        try simp only [Act.put, List.setIfInBounds_toArray, List.set_cons_zero, List.set_cons_succ]
        refine wpAnyH_take (i := 5) (v := .bool true) (at_list rfl) (by kernel_rfl) (by kernel_rfl) (by kernel_rfl) (fun _ _ _ h => h) (Or.inl ⟨by rfl, ?_⟩) (by assumption) ?_
        · intro v hSv
          obtain ⟨q0, q1, q2⟩ := hSv
          go_simp
        try simp only [Act.put, List.setIfInBounds_toArray, List.set_cons_zero, List.set_cons_succ]
        refine wpAnyH_take (i := 6) (v := undef) (at_list rfl) (by kernel_rfl) (by kernel_rfl) (by kernel_rfl) (fun _ _ _ h => h) (Or.inr ⟨by rfl, rfl⟩) (by assumption) ?_
        try simp only [Act.put, List.setIfInBounds_toArray, List.set_cons_zero, List.set_cons_succ]
        refine wpAnyH_take (i := 7) (v := undef) (at_list rfl) (by kernel_rfl) (by kernel_rfl) (by kernel_rfl) (fun _ _ _ h => h) (Or.inr ⟨by rfl, rfl⟩) (by assumption) ?_
        try simp only [Act.put, List.setIfInBounds_toArray, List.set_cons_zero, List.set_cons_succ]
        refine wpAnyH_take (i := 8) (v := undef) (at_list rfl) (by kernel_rfl) (by kernel_rfl) (by kernel_rfl) (fun _ _ _ h => h) (Or.inr ⟨by rfl, rfl⟩) (by assumption) ?_
        try simp only [Act.put, List.setIfInBounds_toArray, List.set_cons_zero, List.set_cons_succ]
        refine wpAnyH_take (i := 9) (v := undef) (at_list rfl) (by kernel_rfl) (by kernel_rfl) (by kernel_rfl) (fun _ _ _ h => h) (Or.inr ⟨by rfl, rfl⟩) (by assumption) ?_
        try simp only [Act.put, List.setIfInBounds_toArray, List.set_cons_zero, List.set_cons_succ]
        refine wpAnyH_take (i := 10) (v := undef) (at_list rfl) (by kernel_rfl) (by kernel_rfl) (by kernel_rfl) (fun _ _ _ h => h) (Or.inr ⟨by rfl, rfl⟩) (by assumption) ?_
        try simp only [Act.put, List.setIfInBounds_toArray, List.set_cons_zero, List.set_cons_succ]
        refine wpAnyH_take (i := 11) (v := .bool true) (at_list rfl) (by kernel_rfl) (by kernel_rfl) (by kernel_rfl) (fun _ _ _ h => h) (Or.inl ⟨by rfl, ?_⟩) (by assumption) ?_
        · intro v hSv
          obtain ⟨q0, q1, q2⟩ := hSv
          go_simp
        try simp only [Act.put, List.setIfInBounds_toArray, List.set_cons_zero, List.set_cons_succ]
        refine wpAnyH_take (i := 12) (v := .bool true) (at_list rfl) (by kernel_rfl) (by kernel_rfl) (by kernel_rfl) (fun _ _ _ h => h) (Or.inl ⟨by rfl, ?_⟩) (by assumption) ?_
        · intro v hSv
          obtain ⟨q0, q1, q2⟩ := hSv
          go_simp
        try simp only [Act.put, List.setIfInBounds_toArray, List.set_cons_zero, List.set_cons_succ]
        refine wpAnyH_take (i := 13) (v := .bool true) (at_list rfl) (by kernel_rfl) (by kernel_rfl) (by kernel_rfl) (fun _ _ _ h => h) (Or.inl ⟨by rfl, ?_⟩) (by assumption) ?_
        · intro v hSv
          obtain ⟨q0, q1, q2⟩ := hSv
          go_simp
        try simp only [Act.put, List.setIfInBounds_toArray, List.set_cons_zero, List.set_cons_succ]
        refine wpAnyH_done (by kernel_rfl) ?_ _
        have HV12 := Lib.hid (bstep (bdrew (Below.refl ((w9.alloc (.cells #[.int .i64 Y.lo, .int .i64 Y.hi, .bool false] 24))).heap.size (w9.alloc (.cells #[.int .i64 Y.lo, .int .i64 Y.hi, .bool false] 24)))) hv11_0)
        clear x10_0 x10_1 x10_2
        replace K7 := Lib.hid ((K7.out).keptB HV12.out)
        replace K8 := Lib.hid ((K8.out).keptB HV12.out)
        replace K0 := Lib.hid ((K0.out).keptB HV12.out)
        replace K1 := Lib.hid ((K1.out).keptB HV12.out)
        replace K9 := Lib.hid ((K9.out).keptB HV12.out)
        replace K10 := Lib.hid ((K10.out).keptB HV12.out)
        replace HB := Lib.hid (bstep HB.out HV12.out)
        clear hv11_0 HV12
        go_wp2
        go_ret
        exact ⟨rfl, HB.out⟩
      · have HT := Lib.hid (hYk.out hy)
        rw [HT.out] at CW
        rw [hy] at CY CZ
        clear hy
        have x7_0 := (K7.out).reads (i := 0) rfl
        have x7_1 := (K7.out).reads (i := 1) rfl
        have x7_2 := (K7.out).reads (i := 2) rfl
        have x8_0 := (K8.out).reads (i := 0) rfl
        have x8_1 := (K8.out).reads (i := 1) rfl
        have x8_2 := (K8.out).reads (i := 2) rfl
        go_wp2_with fail
        refine (CY.out _).mono ?_
        rintro e w9 ⟨rfl, hw9⟩
        clear x7_0 x7_1 x7_2 x8_0 x8_1 x8_2
        replace K7 := Lib.hid ((K7.out).keptB hw9)
        replace K8 := Lib.hid ((K8.out).keptB hw9)
        replace K0 := Lib.hid ((K0.out).keptB hw9)
        replace K1 := Lib.hid ((K1.out).keptB hw9)
        replace K9 := Lib.hid ((K9.out).keptB hw9)
        replace HB := Lib.hid (bstep HB.out hw9)
        clear hw9
        replace K7 := Lib.hid ((K7.out).laid (.cells #[.int .i64 Y.lo, .int .i64 Y.hi, .bool true] 24))
        replace K8 := Lib.hid ((K8.out).laid (.cells #[.int .i64 Y.lo, .int .i64 Y.hi, .bool true] 24))
        replace K0 := Lib.hid ((K0.out).laid (.cells #[.int .i64 Y.lo, .int .i64 Y.hi, .bool true] 24))
        replace K1 := Lib.hid ((K1.out).laid (.cells #[.int .i64 Y.lo, .int .i64 Y.hi, .bool true] 24))
        replace K9 := Lib.hid ((K9.out).laid (.cells #[.int .i64 Y.lo, .int .i64 Y.hi, .bool true] 24))
        have K10 := Lib.hid (Holds.fresh w9 24 #[.int .i64 Y.lo, .int .i64 Y.hi, .bool true] (g := (w9).heap.size) rfl)
        replace HB := Lib.hid (bstep HB.out (bnew _ (.cells #[.int .i64 Y.lo, .int .i64 Y.hi, .bool true] 24)))
        go_wp2_with fail
        have x10_0 := (K7.out).reads (i := 0) rfl
        have x10_1 := (K7.out).reads (i := 1) rfl
        have x10_2 := (K7.out).reads (i := 2) rfl
        have x11_0 := (K8.out).reads (i := 0) rfl
        have x11_1 := (K8.out).reads (i := 1) rfl
        have x11_2 := (K8.out).reads (i := 2) rfl
        have x12_0 := (K10.out).reads (i := 0) rfl
        have x12_1 := (K10.out).reads (i := 1) rfl
        have x12_2 := (K10.out).reads (i := 2) rfl
        go_region_held3 (fun v => v.cell? ⟨g7, 0, none⟩ = some (.int .i64 s.lo) ∧ v.cell? ⟨g7, 1, none⟩ = some (.int .i64 s.hi) ∧ v.cell? ⟨g7, 2, none⟩ = some (.bool s.k) ∧ v.cell? ⟨g8, 0, none⟩ = some (.int .i64 o.lo) ∧ v.cell? ⟨g8, 1, none⟩ = some (.int .i64 o.hi) ∧ v.cell? ⟨g8, 2, none⟩ = some (.bool o.k) ∧ v.cell? ⟨(w9).heap.size, 0, none⟩ = some (.int .i64 Y.lo) ∧ v.cell? ⟨(w9).heap.size, 1, none⟩ = some (.int .i64 Y.hi) ∧ v.cell? ⟨(w9).heap.size, 2, none⟩ = some (.bool true))
          (first | (with_reducible exact keep9 (by assumption) (by assumption)) | (with_reducible exact keep9 (bnew _ _) (by assumption)) | (exact ⟨x10_0, x10_1, x10_2, x11_0, x11_1, x11_2, x12_0, x12_1, x12_2⟩) | go_keep)
          (first
            | (go_at_call 23; (with_reducible refine (alive3_any _).mono ?_); rintro e v13_0 ⟨rfl, hv13_0⟩)
            | (go_at_call 15; (with_reducible refine (CZ.out _).mono ?_); rintro e v13_1 ⟨rfl, hv13_1⟩)
            | (go_at_call 28; (with_reducible refine (CW.out _).mono ?_); rintro e v13_2 ⟨rfl, hv13_2⟩))
        have HV14 := Lib.hid (bstep (bstep (bstep (bdrew (Below.refl ((w9.alloc (.cells #[.int .i64 Y.lo, .int .i64 Y.hi, .bool true] 24))).heap.size (w9.alloc (.cells #[.int .i64 Y.lo, .int .i64 Y.hi, .bool true] 24)))) hv13_0) hv13_1) hv13_2)
        clear x10_0 x10_1 x10_2 x11_0 x11_1 x11_2 x12_0 x12_1 x12_2
        replace K7 := Lib.hid ((K7.out).keptB HV14.out)
        replace K8 := Lib.hid ((K8.out).keptB HV14.out)
        replace K0 := Lib.hid ((K0.out).keptB HV14.out)
        replace K1 := Lib.hid ((K1.out).keptB HV14.out)
        replace K9 := Lib.hid ((K9.out).keptB HV14.out)
        replace K10 := Lib.hid ((K10.out).keptB HV14.out)
        replace HB := Lib.hid (bstep HB.out HV14.out)
        clear hv13_0 hv13_1 hv13_2 HV14
        go_wp2
        go_ret
        exact ⟨rfl, HB.out⟩

end Go.Proofs.Ytcjfiipcmaegnaa
