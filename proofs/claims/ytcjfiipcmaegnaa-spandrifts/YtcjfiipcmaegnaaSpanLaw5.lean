/- The walk over the law SpanDrifts. -/
import Derived.Test.YtcjfiipcmaegnaaSpanLawWords
import Derived.Test.YtcjfiipcmaegnaaSpanLawMath2
namespace Go.Proofs.Ytcjfiipcmaegnaa
open Go.RowKit
set_option linter.unusedVariables false

set_option maxRecDepth 100000 in
set_option maxHeartbeats 4000000 in
theorem spandrifts_walk (s : Sp) (p q0 q1 : Int) (hp : In64 p) (w : World) :
    Calls Try.prog 7 #[.agg #[.int .i64 (s).lo, .int .i64 (s).hi, .bool (s).k], .int .i64 p, .agg #[.int .i64 q0, .int .i64 q1]] w fun e w' => e = .returned (.bool true) ∧ Below w.heap.size w w' := by
  obtain ⟨R, HR⟩ : ∃ R, Hid (rgtB s = R) := ⟨_, Lib.hid rfl⟩
  have PR := Lib.hid (right3_any s)
  rw [HR.out] at PR
  obtain ⟨D0, HD0⟩ : ∃ D0, Hid (driftS s p q0 = D0) := ⟨_, Lib.hid rfl⟩
  have PD0 := Lib.hid (fun w => drift3_any s p q0 w hp)
  rw [HD0.out] at PD0
  obtain ⟨D1, HD1⟩ : ∃ D1, Hid (driftS s p q1 = D1) := ⟨_, Lib.hid rfl⟩
  have PD1 := Lib.hid (fun w => drift3_any s p q1 w hp)
  rw [HD1.out] at PD1
  obtain ⟨S0, HS0⟩ : ∃ S0, Hid (scaleS s q0 = S0) := ⟨_, Lib.hid rfl⟩
  have PS0 := Lib.hid (scale3_any s q0)
  rw [HS0.out] at PS0
  obtain ⟨S1, HS1⟩ : ∃ S1, Hid (scaleS s q1 = S1) := ⟨_, Lib.hid rfl⟩
  have PS1 := Lib.hid (scale3_any s q1)
  rw [HS1.out] at PS1
  have PW1 := Lib.hid (within3_any s D0)
  rw [show withinS s D0 = true by rw [← HD0.out]; exact within_drift s p q0] at PW1
  have PW2 := Lib.hid (within3_any s S0)
  rw [show withinS s S0 = true by rw [← HS0.out]; exact within_scale s q0] at PW2
  have PW3 := Lib.hid (within3_any D0 D1)
  have PW4 := Lib.hid (within3_any S0 S1)
  have F1 : Hid (0 ≤ q0 → q0 ≤ q1 → q1 ≤ 1000000000 → withinS D0 D1 = true ∧ withinS S0 S1 = true) := by
    intro h1 h2 h3
    rw [← HD0.out, ← HD1.out, ← HS0.out, ← HS1.out]
    exact ⟨drift_mono h1 h2 h3, scale_mono h1 h2 h3⟩
  have F2 : Hid (R = false → ∀ w, Calls Try.prog 34 #[.agg #[.int .i64 (s).lo, .int .i64 (s).hi, .bool (s).k], .int .i64 p, .int .i64 q0] w fun e w' => e = .returned (.agg #[.int .i64 0, .int .i64 0, .bool false]) ∧ Below w.heap.size w w') := by
    intro h w
    have h2 := drift3_any s p q0 w hp
    rw [drift_no (rgt_no (HR.out.trans h))] at h2
    exact h2
  have heq := eql_span
  have hz : eqS 0 0 false 0 0 false = true := by rfl
  clear HR HD0 HD1 HS0 HS1 hp
  have K0 := Lib.hid (Holds.fresh w 23 #[.int .i64 s.lo, .int .i64 s.hi, .bool s.k] (g := w.heap.size) (by simp))
  replace K0 := Lib.hid ((K0.out).laid (.cells #[.int .i64 q0, .int .i64 q1] 47))
  have K5 := Lib.hid (Holds.fresh (w.alloc (.cells #[.int .i64 s.lo, .int .i64 s.hi, .bool s.k] 23)) 47 #[.int .i64 q0, .int .i64 q1] (g := w.heap.size + 1) (by simp))
  have HB := Lib.hid (bstep (bnew w (.cells #[.int .i64 s.lo, .int .i64 s.hi, .bool s.k] 23)) (bnew _ (.cells #[.int .i64 q0, .int .i64 q1] 47)))
  go_enter Try.func7, Try.ntmps7
  have x1_0 := (K0.out).reads (i := 0) rfl
  have x1_1 := (K0.out).reads (i := 1) rfl
  have x1_2 := (K0.out).reads (i := 2) rfl
  go_wp2_with fail
  refine (own3_any s _).mono ?_
  rintro e w2 ⟨rfl, hw2⟩
  clear x1_0 x1_1 x1_2
  replace K0 := Lib.hid ((K0.out).keptB hw2)
  replace K5 := Lib.hid ((K5.out).keptB hw2)
  replace HB := Lib.hid (bstep HB.out hw2)
  clear hw2
  clear K0
  replace K5 := Lib.hid ((K5.out).laid (.cells #[.int .i64 s.lo, .int .i64 s.hi, .bool s.k] 24))
  have K7 := Lib.hid (Holds.fresh w2 24 #[.int .i64 s.lo, .int .i64 s.hi, .bool s.k] (g := (w2).heap.size) rfl)
  replace HB := Lib.hid (bstep HB.out (bnew _ (.cells #[.int .i64 s.lo, .int .i64 s.hi, .bool s.k] 24)))
  cases R
  · have PDU := Lib.hid (F2.out (by trivial))
    have x3_0 := (K7.out).reads (i := 0) rfl
    have x3_1 := (K7.out).reads (i := 1) rfl
    have x3_2 := (K7.out).reads (i := 2) rfl
    go_wp2_with fail
    refine (PR.out _).mono ?_
    rintro e w4 ⟨rfl, hw4⟩
    clear x3_0 x3_1 x3_2
    replace K5 := Lib.hid ((K5.out).keptB hw4)
    replace K7 := Lib.hid ((K7.out).keptB hw4)
    replace HB := Lib.hid (bstep HB.out hw4)
    clear hw4
    go_wp2_with fail
    refine (alive3_any _).mono ?_
    rintro e w5 ⟨rfl, hw5⟩
    replace K5 := Lib.hid ((K5.out).keptB hw5)
    replace K7 := Lib.hid ((K7.out).keptB hw5)
    replace HB := Lib.hid (bstep HB.out hw5)
    clear hw5
    have x6_0 := (K7.out).reads (i := 0) rfl
    have x6_1 := (K7.out).reads (i := 1) rfl
    have x6_2 := (K7.out).reads (i := 2) rfl
    have x7_0 := (K5.out).reads (i := 0) rfl
    have x7_1 := (K5.out).reads (i := 1) rfl
    go_wp2_with fail
    refine (PDU.out _).mono ?_
    rintro e w8 ⟨rfl, hw8⟩
    clear x6_0 x6_1 x6_2 x7_0 x7_1
    replace K5 := Lib.hid ((K5.out).keptB hw8)
    replace K7 := Lib.hid ((K7.out).keptB hw8)
    replace HB := Lib.hid (bstep HB.out hw8)
    clear hw8
    go_wp2_with fail
    refine (unknown_any _).mono ?_
    rintro e w9 ⟨rfl, hw9⟩
    replace K5 := Lib.hid ((K5.out).keptB hw9)
    replace K7 := Lib.hid ((K7.out).keptB hw9)
    replace HB := Lib.hid (bstep HB.out hw9)
    clear hw9
    go_wp2
    go_ret
    exact ⟨rfl, HB.out⟩
  · have x3_0 := (K7.out).reads (i := 0) rfl
    have x3_1 := (K7.out).reads (i := 1) rfl
    have x3_2 := (K7.out).reads (i := 2) rfl
    go_wp2_with fail
    refine (PR.out _).mono ?_
    rintro e w4 ⟨rfl, hw4⟩
    clear x3_0 x3_1 x3_2
    replace K5 := Lib.hid ((K5.out).keptB hw4)
    replace K7 := Lib.hid ((K7.out).keptB hw4)
    replace HB := Lib.hid (bstep HB.out hw4)
    clear hw4
    go_wp2_with fail
    have x5_0 := (K7.out).reads (i := 0) rfl
    have x5_1 := (K7.out).reads (i := 1) rfl
    have x5_2 := (K7.out).reads (i := 2) rfl
    have x6_0 := (K5.out).reads (i := 0) rfl
    have x6_1 := (K5.out).reads (i := 1) rfl
    have HS0 := Lib.hid (show w4.cell? ⟨(w2).heap.size, 0, none⟩ = some (.int .i64 s.lo) ∧ w4.cell? ⟨(w2).heap.size, 1, none⟩ = some (.int .i64 s.hi) ∧ w4.cell? ⟨(w2).heap.size, 2, none⟩ = some (.bool s.k) ∧ w4.cell? ⟨w.heap.size + 1, 0, none⟩ = some (.int .i64 q0) ∧ w4.cell? ⟨w.heap.size + 1, 1, none⟩ = some (.int .i64 q1) from ⟨x5_0, x5_1, x5_2, x6_0, x6_1⟩)
    go_cut [8, 9] (fun p q wx => Pair D0 D1 w4 p q wx)
    case first =>
      refine wp_region_noPanic ?_
      refine wp_region_held_drew (S := fun v => v.cell? ⟨(w2).heap.size, 0, none⟩ = some (.int .i64 s.lo) ∧ v.cell? ⟨(w2).heap.size, 1, none⟩ = some (.int .i64 s.hi) ∧ v.cell? ⟨(w2).heap.size, 2, none⟩ = some (.bool s.k) ∧ v.cell? ⟨w.heap.size + 1, 0, none⟩ = some (.int .i64 q0) ∧ v.cell? ⟨w.heap.size + 1, 1, none⟩ = some (.int .i64 q1)) (by kernel_rfl) ?_ (fun hHeld => ?_)
      · exact HS0.out
      refine wpAnyH_take (i := 0) (v := .agg #[.int .i64 (s).lo, .int .i64 (s).hi, .bool (s).k]) (at_list rfl) (by kernel_rfl) (by kernel_rfl) (by kernel_rfl) (fun _ _ _ h => h) (Or.inl ⟨by rfl, ?_⟩) (by assumption) ?_
      · intro v hSv
        obtain ⟨q0, q1, q2, q3, q4⟩ := hSv
        go_simp
      try simp only [Act.put, List.setIfInBounds_toArray, List.set_cons_zero, List.set_cons_succ]
      refine wpAnyH_take (i := 1) (v := .int .i64 p) (at_list rfl) (by kernel_rfl) (by kernel_rfl) (by kernel_rfl) (fun _ _ _ h => h) (Or.inl ⟨by rfl, ?_⟩) (by assumption) ?_
      · intro v hSv
        obtain ⟨q0, q1, q2, q3, q4⟩ := hSv
        go_simp
      try simp only [Act.put, List.setIfInBounds_toArray, List.set_cons_zero, List.set_cons_succ]
      refine wpAnyH_take (i := 2) (v := .pointer (some ⟨w.heap.size + 1, 0, none⟩)) (at_list rfl) (by kernel_rfl) (by kernel_rfl) (by kernel_rfl) (fun _ _ _ h => h) (Or.inl ⟨by rfl, ?_⟩) (by assumption) ?_
      · intro v hSv
        obtain ⟨q0, q1, q2, q3, q4⟩ := hSv
        go_simp
      try simp only [Act.put, List.setIfInBounds_toArray, List.set_cons_zero, List.set_cons_succ]
      refine wpAnyH_take (i := 3) (v := .int .i64 q0) (at_list rfl) (by kernel_rfl) (by kernel_rfl) (by kernel_rfl) (fun _ _ _ h => h) (Or.inl ⟨by rfl, ?_⟩) (by assumption) ?_
      · intro v hSv
        obtain ⟨q0, q1, q2, q3, q4⟩ := hSv
        go_simp
      try simp only [Act.put, List.setIfInBounds_toArray, List.set_cons_zero, List.set_cons_succ]
      refine wpAnyH_take (i := 5) (v := .agg #[.int .i64 (s).lo, .int .i64 (s).hi, .bool (s).k]) (at_list rfl) (by kernel_rfl) (by kernel_rfl) (by kernel_rfl) (fun _ _ _ h => h) (Or.inl ⟨by rfl, ?_⟩) (by assumption) ?_
      · intro v hSv
        obtain ⟨q0, q1, q2, q3, q4⟩ := hSv
        go_simp
      try simp only [Act.put, List.setIfInBounds_toArray, List.set_cons_zero, List.set_cons_succ]
      refine wpAnyH_take (i := 6) (v := .int .i64 p) (at_list rfl) (by kernel_rfl) (by kernel_rfl) (by kernel_rfl) (fun _ _ _ h => h) (Or.inl ⟨by rfl, ?_⟩) (by assumption) ?_
      · intro v hSv
        obtain ⟨q0, q1, q2, q3, q4⟩ := hSv
        go_simp
      try simp only [Act.put, List.setIfInBounds_toArray, List.set_cons_zero, List.set_cons_succ]
      refine wpAnyH_take (i := 7) (v := .pointer (some ⟨w.heap.size + 1, 1, none⟩)) (at_list rfl) (by kernel_rfl) (by kernel_rfl) (by kernel_rfl) (fun _ _ _ h => h) (Or.inl ⟨by rfl, ?_⟩) (by assumption) ?_
      · intro v hSv
        obtain ⟨q0, q1, q2, q3, q4⟩ := hSv
        go_simp
      try simp only [Act.put, List.setIfInBounds_toArray, List.set_cons_zero, List.set_cons_succ]
      refine wpAnyH_take (i := 8) (v := .int .i64 q1) (at_list rfl) (by kernel_rfl) (by kernel_rfl) (by kernel_rfl) (fun _ _ _ h => h) (Or.inl ⟨by rfl, ?_⟩) (by assumption) ?_
      · intro v hSv
        obtain ⟨q0, q1, q2, q3, q4⟩ := hSv
        go_simp
      try simp only [Act.put, List.setIfInBounds_toArray, List.set_cons_zero, List.set_cons_succ]
      refine wpAnyH_ready (rs := [4, 10, 11]) (by kernel_rfl) (by simp) ?_
      refine AllReadyH.cons (at_list rfl) (fun K hK => ?_) ?_
      · go_simp
        refine (PD0.out _).mono ?_
        rintro e w1 ⟨rfl, hb1⟩
        have Q1 := Lib.hid (bstep (bdrew (Below.refl _ _)) hb1)
        go_wp2_with fail
        refine hK.out _ _ ?_ (fun hHeld => ?_)
        · exact keep5 Q1.out HS0.out
        clear hK K
        try simp only [Act.put, List.setIfInBounds_toArray, List.set_cons_zero, List.set_cons_succ]
        refine wpAnyH_ready (rs := [9, 10, 11]) (by kernel_rfl) (by simp) ?_
        refine AllReadyH.cons (at_list rfl) (fun K hK => ?_) ?_
        · go_simp
          refine (PD1.out _).mono ?_
          rintro e w2 ⟨rfl, hb2⟩
          have Q2 := Lib.hid (bstep (Q1.out) hb2)
          go_wp2_with fail
          refine hK.out _ _ ?_ (fun hHeld => ?_)
          · exact keep5 Q2.out HS0.out
          clear hK K
          try simp only [Act.put, List.setIfInBounds_toArray, List.set_cons_zero, List.set_cons_succ]
          refine wpAnyH_ready (rs := [10, 11]) (by kernel_rfl) (by simp) ?_
          refine AllReadyH.cons (at_list rfl) (fun K hK => ?_) ?_
          · go_simp
            refine hK.out _ _ ?_ (fun hHeld => ?_)
            · exact keep5 (bstep (Q2.out) (bnew _ (.cells #[.int .i64 0, .int .i64 0, .bool false] 24))) HS0.out
            clear hK K
            try simp only [Act.put, List.setIfInBounds_toArray, List.set_cons_zero, List.set_cons_succ]
            refine wpAnyH_ready (rs := [11]) (by kernel_rfl) (by simp) ?_
            refine AllReadyH.cons (at_list rfl) (fun K hK => ?_) ?_
            · go_simp
              refine hK.out _ _ ?_ (fun hHeld => ?_)
              · exact keep5 (bstep (bstep (Q2.out) (bnew _ (.cells #[.int .i64 0, .int .i64 0, .bool false] 24))) (bnew _ (.cells #[.int .i64 0, .int .i64 0, .bool false] 24))) HS0.out
              clear hK K
              try simp only [Act.put, List.setIfInBounds_toArray, List.set_cons_zero, List.set_cons_succ]
              have LA := Lib.hid ((Holds.fresh w2 24 #[.int .i64 0, .int .i64 0, .bool false] (g := w2.heap.size) (by simp)).laid (.cells #[.int .i64 0, .int .i64 0, .bool false] 24))
              have LB := Lib.hid (Holds.fresh (w2.alloc (.cells #[.int .i64 0, .int .i64 0, .bool false] 24)) 24 #[.int .i64 0, .int .i64 0, .bool false] (g := w2.heap.size + 1) (by simp))
              have QQ := Lib.hid (bstep (bstep (Q2.out) (bnew _ (.cells #[.int .i64 0, .int .i64 0, .bool false] 24))) (bnew _ (.cells #[.int .i64 0, .int .i64 0, .bool false] 24)))
              have sz1 := (Q1.out).size
              have sz2 := (Q2.out).size
              have sz3 := hb2.size
              try simp at sz3
              have leA : w4.heap.size ≤ w2.heap.size := by omega
              have leB : w4.heap.size ≤ w2.heap.size + 1 := by omega
              have neA : ¬ (w2.heap.size = w2.heap.size + 1) := by first | omega | (have := hb1.size; simp at this; omega)
              have neB : ¬ (w2.heap.size + 1 = w2.heap.size) := fun h => neA h.symm
              clear sz1 sz2 sz3
              generalize ((w2.alloc (.cells #[.int .i64 0, .int .i64 0, .bool false] 24)).alloc (.cells #[.int .i64 0, .int .i64 0, .bool false] 24)) = V at *
              have la0 := (LA.out).reads (i := 0) rfl; have la1 := (LA.out).reads (i := 1) rfl; have la2 := (LA.out).reads (i := 2) rfl
              have lb0 := (LB.out).reads (i := 0) rfl; have lb1 := (LB.out).reads (i := 1) rfl; have lb2 := (LB.out).reads (i := 2) rfl
              have la3 := (LA.out).open_ 0; have la4 := (LA.out).open_ 1; have la5 := (LA.out).open_ 2
              have lb3 := (LB.out).open_ 0; have lb4 := (LB.out).open_ 1; have lb5 := (LB.out).open_ 2
              refine wpAnyH_ready (rs := [12]) (by kernel_rfl) (by simp) ?_
              refine AllReadyH.cons (at_list rfl) (fun K hK => ?_) AllReadyH.nil
              go_simp
              refine hK.out _ _ ?_ (fun hHeld => ?_)
              · exact keep5 (bput3 QQ.out leA _ _ _) HS0.out
              clear hK K
              try simp only [Act.put, List.setIfInBounds_toArray, List.set_cons_zero, List.set_cons_succ]
              refine wpAnyH_ready (rs := [13]) (by kernel_rfl) (by simp) ?_
              refine AllReadyH.cons (at_list rfl) (fun K hK => ?_) AllReadyH.nil
              go_simp
              refine hK.out _ _ ?_ (fun hHeld => ?_)
              · exact keep5 (bput3 (bput3 QQ.out leA _ _ _) leB _ _ _) HS0.out
              clear hK K
              try simp only [Act.put, List.setIfInBounds_toArray, List.set_cons_zero, List.set_cons_succ]
              refine wpAnyH_done (by kernel_rfl) ?_ _
              refine NoPanic.normal ?_
              go_wp2_with fail
              go_meet
              exact ⟨_, _, rfl, rfl, ((LA.out).put3 _ _ _).aside3 neB _ _ _, ((LB.out).aside3 neA _ _ _).put3 _ _ _, bput3 (bput3 QQ.out leA _ _ _) leB _ _ _⟩
            exact AllReadyH.nil
          refine AllReadyH.cons (at_list rfl) (fun K hK => ?_) ?_
          · go_simp
            refine hK.out _ _ ?_ (fun hHeld => ?_)
            · exact keep5 (bstep (Q2.out) (bnew _ (.cells #[.int .i64 0, .int .i64 0, .bool false] 24))) HS0.out
            clear hK K
            try simp only [Act.put, List.setIfInBounds_toArray, List.set_cons_zero, List.set_cons_succ]
            refine wpAnyH_ready (rs := [10]) (by kernel_rfl) (by simp) ?_
            refine AllReadyH.cons (at_list rfl) (fun K hK => ?_) ?_
            · go_simp
              refine hK.out _ _ ?_ (fun hHeld => ?_)
              · exact keep5 (bstep (bstep (Q2.out) (bnew _ (.cells #[.int .i64 0, .int .i64 0, .bool false] 24))) (bnew _ (.cells #[.int .i64 0, .int .i64 0, .bool false] 24))) HS0.out
              clear hK K
              try simp only [Act.put, List.setIfInBounds_toArray, List.set_cons_zero, List.set_cons_succ]
              have LA := Lib.hid (Holds.fresh (w2.alloc (.cells #[.int .i64 0, .int .i64 0, .bool false] 24)) 24 #[.int .i64 0, .int .i64 0, .bool false] (g := w2.heap.size + 1) (by simp))
              have LB := Lib.hid ((Holds.fresh w2 24 #[.int .i64 0, .int .i64 0, .bool false] (g := w2.heap.size) (by simp)).laid (.cells #[.int .i64 0, .int .i64 0, .bool false] 24))
              have QQ := Lib.hid (bstep (bstep (Q2.out) (bnew _ (.cells #[.int .i64 0, .int .i64 0, .bool false] 24))) (bnew _ (.cells #[.int .i64 0, .int .i64 0, .bool false] 24)))
              have sz1 := (Q1.out).size
              have sz2 := (Q2.out).size
              have sz3 := hb2.size
              try simp at sz3
              have leA : w4.heap.size ≤ w2.heap.size + 1 := by omega
              have leB : w4.heap.size ≤ w2.heap.size := by omega
              have neA : ¬ (w2.heap.size + 1 = w2.heap.size) := by first | omega | (have := hb1.size; simp at this; omega)
              have neB : ¬ (w2.heap.size = w2.heap.size + 1) := fun h => neA h.symm
              clear sz1 sz2 sz3
              generalize ((w2.alloc (.cells #[.int .i64 0, .int .i64 0, .bool false] 24)).alloc (.cells #[.int .i64 0, .int .i64 0, .bool false] 24)) = V at *
              have la0 := (LA.out).reads (i := 0) rfl; have la1 := (LA.out).reads (i := 1) rfl; have la2 := (LA.out).reads (i := 2) rfl
              have lb0 := (LB.out).reads (i := 0) rfl; have lb1 := (LB.out).reads (i := 1) rfl; have lb2 := (LB.out).reads (i := 2) rfl
              have la3 := (LA.out).open_ 0; have la4 := (LA.out).open_ 1; have la5 := (LA.out).open_ 2
              have lb3 := (LB.out).open_ 0; have lb4 := (LB.out).open_ 1; have lb5 := (LB.out).open_ 2
              refine wpAnyH_ready (rs := [12]) (by kernel_rfl) (by simp) ?_
              refine AllReadyH.cons (at_list rfl) (fun K hK => ?_) AllReadyH.nil
              go_simp
              refine hK.out _ _ ?_ (fun hHeld => ?_)
              · exact keep5 (bput3 QQ.out leA _ _ _) HS0.out
              clear hK K
              try simp only [Act.put, List.setIfInBounds_toArray, List.set_cons_zero, List.set_cons_succ]
              refine wpAnyH_ready (rs := [13]) (by kernel_rfl) (by simp) ?_
              refine AllReadyH.cons (at_list rfl) (fun K hK => ?_) AllReadyH.nil
              go_simp
              refine hK.out _ _ ?_ (fun hHeld => ?_)
              · exact keep5 (bput3 (bput3 QQ.out leA _ _ _) leB _ _ _) HS0.out
              clear hK K
              try simp only [Act.put, List.setIfInBounds_toArray, List.set_cons_zero, List.set_cons_succ]
              refine wpAnyH_done (by kernel_rfl) ?_ _
              refine NoPanic.normal ?_
              go_wp2_with fail
              go_meet
              exact ⟨_, _, rfl, rfl, ((LA.out).put3 _ _ _).aside3 neB _ _ _, ((LB.out).aside3 neA _ _ _).put3 _ _ _, bput3 (bput3 QQ.out leA _ _ _) leB _ _ _⟩
            exact AllReadyH.nil
          exact AllReadyH.nil
        refine AllReadyH.cons (at_list rfl) (fun K hK => ?_) ?_
        · go_simp
          refine hK.out _ _ ?_ (fun hHeld => ?_)
          · exact keep5 (bstep (Q1.out) (bnew _ (.cells #[.int .i64 0, .int .i64 0, .bool false] 24))) HS0.out
          clear hK K
          try simp only [Act.put, List.setIfInBounds_toArray, List.set_cons_zero, List.set_cons_succ]
          refine wpAnyH_ready (rs := [9, 11]) (by kernel_rfl) (by simp) ?_
          refine AllReadyH.cons (at_list rfl) (fun K hK => ?_) ?_
          · go_simp
            refine (PD1.out _).mono ?_
            rintro e w2 ⟨rfl, hb2⟩
            have Q2 := Lib.hid (bstep (bstep (Q1.out) (bnew _ (.cells #[.int .i64 0, .int .i64 0, .bool false] 24))) hb2)
            have KA2 := Lib.hid ((Holds.fresh w1 24 #[.int .i64 0, .int .i64 0, .bool false] (g := w1.heap.size) (by simp)).keptB hb2)
            go_wp2_with fail
            refine hK.out _ _ ?_ (fun hHeld => ?_)
            · exact keep5 Q2.out HS0.out
            clear hK K
            try simp only [Act.put, List.setIfInBounds_toArray, List.set_cons_zero, List.set_cons_succ]
            refine wpAnyH_ready (rs := [11]) (by kernel_rfl) (by simp) ?_
            refine AllReadyH.cons (at_list rfl) (fun K hK => ?_) ?_
            · go_simp
              refine hK.out _ _ ?_ (fun hHeld => ?_)
              · exact keep5 (bstep (Q2.out) (bnew _ (.cells #[.int .i64 0, .int .i64 0, .bool false] 24))) HS0.out
              clear hK K
              try simp only [Act.put, List.setIfInBounds_toArray, List.set_cons_zero, List.set_cons_succ]
              have LA := Lib.hid ((KA2.out).laid (.cells #[.int .i64 0, .int .i64 0, .bool false] 24))
              have LB := Lib.hid (Holds.fresh w2 24 #[.int .i64 0, .int .i64 0, .bool false] (g := w2.heap.size) (by simp))
              have QQ := Lib.hid (bstep (Q2.out) (bnew _ (.cells #[.int .i64 0, .int .i64 0, .bool false] 24)))
              have sz1 := (Q1.out).size
              have sz2 := (Q2.out).size
              have sz3 := hb2.size
              try simp at sz3
              have leA : w4.heap.size ≤ w1.heap.size := by omega
              have leB : w4.heap.size ≤ w2.heap.size := by omega
              have neA : ¬ (w1.heap.size = w2.heap.size) := by first | omega | (have := hb1.size; simp at this; omega)
              have neB : ¬ (w2.heap.size = w1.heap.size) := fun h => neA h.symm
              clear sz1 sz2 sz3
              generalize (w2.alloc (.cells #[.int .i64 0, .int .i64 0, .bool false] 24)) = V at *
              have la0 := (LA.out).reads (i := 0) rfl; have la1 := (LA.out).reads (i := 1) rfl; have la2 := (LA.out).reads (i := 2) rfl
              have lb0 := (LB.out).reads (i := 0) rfl; have lb1 := (LB.out).reads (i := 1) rfl; have lb2 := (LB.out).reads (i := 2) rfl
              have la3 := (LA.out).open_ 0; have la4 := (LA.out).open_ 1; have la5 := (LA.out).open_ 2
              have lb3 := (LB.out).open_ 0; have lb4 := (LB.out).open_ 1; have lb5 := (LB.out).open_ 2
              refine wpAnyH_ready (rs := [12]) (by kernel_rfl) (by simp) ?_
              refine AllReadyH.cons (at_list rfl) (fun K hK => ?_) AllReadyH.nil
              go_simp
              refine hK.out _ _ ?_ (fun hHeld => ?_)
              · exact keep5 (bput3 QQ.out leA _ _ _) HS0.out
              clear hK K
              try simp only [Act.put, List.setIfInBounds_toArray, List.set_cons_zero, List.set_cons_succ]
              refine wpAnyH_ready (rs := [13]) (by kernel_rfl) (by simp) ?_
              refine AllReadyH.cons (at_list rfl) (fun K hK => ?_) AllReadyH.nil
              go_simp
              refine hK.out _ _ ?_ (fun hHeld => ?_)
              · exact keep5 (bput3 (bput3 QQ.out leA _ _ _) leB _ _ _) HS0.out
              clear hK K
              try simp only [Act.put, List.setIfInBounds_toArray, List.set_cons_zero, List.set_cons_succ]
              refine wpAnyH_done (by kernel_rfl) ?_ _
              refine NoPanic.normal ?_
              go_wp2_with fail
              go_meet
              exact ⟨_, _, rfl, rfl, ((LA.out).put3 _ _ _).aside3 neB _ _ _, ((LB.out).aside3 neA _ _ _).put3 _ _ _, bput3 (bput3 QQ.out leA _ _ _) leB _ _ _⟩
            exact AllReadyH.nil
          refine AllReadyH.cons (at_list rfl) (fun K hK => ?_) ?_
          · go_simp
            refine hK.out _ _ ?_ (fun hHeld => ?_)
            · exact keep5 (bstep (bstep (Q1.out) (bnew _ (.cells #[.int .i64 0, .int .i64 0, .bool false] 24))) (bnew _ (.cells #[.int .i64 0, .int .i64 0, .bool false] 24))) HS0.out
            clear hK K
            try simp only [Act.put, List.setIfInBounds_toArray, List.set_cons_zero, List.set_cons_succ]
            refine wpAnyH_ready (rs := [9]) (by kernel_rfl) (by simp) ?_
            refine AllReadyH.cons (at_list rfl) (fun K hK => ?_) ?_
            · go_simp
              refine (PD1.out _).mono ?_
              rintro e w2 ⟨rfl, hb2⟩
              have Q2 := Lib.hid (bstep (bstep (bstep (Q1.out) (bnew _ (.cells #[.int .i64 0, .int .i64 0, .bool false] 24))) (bnew _ (.cells #[.int .i64 0, .int .i64 0, .bool false] 24))) hb2)
              have KA2 := Lib.hid (((Holds.fresh w1 24 #[.int .i64 0, .int .i64 0, .bool false] (g := w1.heap.size) (by simp)).laid (.cells #[.int .i64 0, .int .i64 0, .bool false] 24)).keptB hb2)
              have KB2 := Lib.hid ((Holds.fresh (w1.alloc (.cells #[.int .i64 0, .int .i64 0, .bool false] 24)) 24 #[.int .i64 0, .int .i64 0, .bool false] (g := w1.heap.size + 1) (by simp)).keptB hb2)
              go_wp2_with fail
              refine hK.out _ _ ?_ (fun hHeld => ?_)
              · exact keep5 Q2.out HS0.out
              clear hK K
              try simp only [Act.put, List.setIfInBounds_toArray, List.set_cons_zero, List.set_cons_succ]
              have LA := Lib.hid (KA2.out)
              have LB := Lib.hid (KB2.out)
              have QQ := Lib.hid (Q2.out)
              have sz1 := (Q1.out).size
              have sz2 := (Q2.out).size
              have sz3 := hb2.size
              try simp at sz3
              have leA : w4.heap.size ≤ w1.heap.size := by omega
              have leB : w4.heap.size ≤ w1.heap.size + 1 := by omega
              have neA : ¬ (w1.heap.size = w1.heap.size + 1) := by first | omega | (have := hb1.size; simp at this; omega)
              have neB : ¬ (w1.heap.size + 1 = w1.heap.size) := fun h => neA h.symm
              clear sz1 sz2 sz3
              have la0 := (LA.out).reads (i := 0) rfl; have la1 := (LA.out).reads (i := 1) rfl; have la2 := (LA.out).reads (i := 2) rfl
              have lb0 := (LB.out).reads (i := 0) rfl; have lb1 := (LB.out).reads (i := 1) rfl; have lb2 := (LB.out).reads (i := 2) rfl
              have la3 := (LA.out).open_ 0; have la4 := (LA.out).open_ 1; have la5 := (LA.out).open_ 2
              have lb3 := (LB.out).open_ 0; have lb4 := (LB.out).open_ 1; have lb5 := (LB.out).open_ 2
              refine wpAnyH_ready (rs := [12]) (by kernel_rfl) (by simp) ?_
              refine AllReadyH.cons (at_list rfl) (fun K hK => ?_) AllReadyH.nil
              go_simp
              refine hK.out _ _ ?_ (fun hHeld => ?_)
              · exact keep5 (bput3 QQ.out leA _ _ _) HS0.out
              clear hK K
              try simp only [Act.put, List.setIfInBounds_toArray, List.set_cons_zero, List.set_cons_succ]
              refine wpAnyH_ready (rs := [13]) (by kernel_rfl) (by simp) ?_
              refine AllReadyH.cons (at_list rfl) (fun K hK => ?_) AllReadyH.nil
              go_simp
              refine hK.out _ _ ?_ (fun hHeld => ?_)
              · exact keep5 (bput3 (bput3 QQ.out leA _ _ _) leB _ _ _) HS0.out
              clear hK K
              try simp only [Act.put, List.setIfInBounds_toArray, List.set_cons_zero, List.set_cons_succ]
              refine wpAnyH_done (by kernel_rfl) ?_ _
              refine NoPanic.normal ?_
              go_wp2_with fail
              go_meet
              exact ⟨_, _, rfl, rfl, ((LA.out).put3 _ _ _).aside3 neB _ _ _, ((LB.out).aside3 neA _ _ _).put3 _ _ _, bput3 (bput3 QQ.out leA _ _ _) leB _ _ _⟩
            exact AllReadyH.nil
          exact AllReadyH.nil
        refine AllReadyH.cons (at_list rfl) (fun K hK => ?_) ?_
        · go_simp
          refine hK.out _ _ ?_ (fun hHeld => ?_)
          · exact keep5 (bstep (Q1.out) (bnew _ (.cells #[.int .i64 0, .int .i64 0, .bool false] 24))) HS0.out
          clear hK K
          try simp only [Act.put, List.setIfInBounds_toArray, List.set_cons_zero, List.set_cons_succ]
          refine wpAnyH_ready (rs := [9, 10]) (by kernel_rfl) (by simp) ?_
          refine AllReadyH.cons (at_list rfl) (fun K hK => ?_) ?_
          · go_simp
            refine (PD1.out _).mono ?_
            rintro e w2 ⟨rfl, hb2⟩
            have Q2 := Lib.hid (bstep (bstep (Q1.out) (bnew _ (.cells #[.int .i64 0, .int .i64 0, .bool false] 24))) hb2)
            have KB2 := Lib.hid ((Holds.fresh w1 24 #[.int .i64 0, .int .i64 0, .bool false] (g := w1.heap.size) (by simp)).keptB hb2)
            go_wp2_with fail
            refine hK.out _ _ ?_ (fun hHeld => ?_)
            · exact keep5 Q2.out HS0.out
            clear hK K
            try simp only [Act.put, List.setIfInBounds_toArray, List.set_cons_zero, List.set_cons_succ]
            refine wpAnyH_ready (rs := [10]) (by kernel_rfl) (by simp) ?_
            refine AllReadyH.cons (at_list rfl) (fun K hK => ?_) ?_
            · go_simp
              refine hK.out _ _ ?_ (fun hHeld => ?_)
              · exact keep5 (bstep (Q2.out) (bnew _ (.cells #[.int .i64 0, .int .i64 0, .bool false] 24))) HS0.out
              clear hK K
              try simp only [Act.put, List.setIfInBounds_toArray, List.set_cons_zero, List.set_cons_succ]
              have LA := Lib.hid (Holds.fresh w2 24 #[.int .i64 0, .int .i64 0, .bool false] (g := w2.heap.size) (by simp))
              have LB := Lib.hid ((KB2.out).laid (.cells #[.int .i64 0, .int .i64 0, .bool false] 24))
              have QQ := Lib.hid (bstep (Q2.out) (bnew _ (.cells #[.int .i64 0, .int .i64 0, .bool false] 24)))
              have sz1 := (Q1.out).size
              have sz2 := (Q2.out).size
              have sz3 := hb2.size
              try simp at sz3
              have leA : w4.heap.size ≤ w2.heap.size := by omega
              have leB : w4.heap.size ≤ w1.heap.size := by omega
              have neA : ¬ (w2.heap.size = w1.heap.size) := by first | omega | (have := hb1.size; simp at this; omega)
              have neB : ¬ (w1.heap.size = w2.heap.size) := fun h => neA h.symm
              clear sz1 sz2 sz3
              generalize (w2.alloc (.cells #[.int .i64 0, .int .i64 0, .bool false] 24)) = V at *
              have la0 := (LA.out).reads (i := 0) rfl; have la1 := (LA.out).reads (i := 1) rfl; have la2 := (LA.out).reads (i := 2) rfl
              have lb0 := (LB.out).reads (i := 0) rfl; have lb1 := (LB.out).reads (i := 1) rfl; have lb2 := (LB.out).reads (i := 2) rfl
              have la3 := (LA.out).open_ 0; have la4 := (LA.out).open_ 1; have la5 := (LA.out).open_ 2
              have lb3 := (LB.out).open_ 0; have lb4 := (LB.out).open_ 1; have lb5 := (LB.out).open_ 2
              refine wpAnyH_ready (rs := [12]) (by kernel_rfl) (by simp) ?_
              refine AllReadyH.cons (at_list rfl) (fun K hK => ?_) AllReadyH.nil
              go_simp
              refine hK.out _ _ ?_ (fun hHeld => ?_)
              · exact keep5 (bput3 QQ.out leA _ _ _) HS0.out
              clear hK K
              try simp only [Act.put, List.setIfInBounds_toArray, List.set_cons_zero, List.set_cons_succ]
              refine wpAnyH_ready (rs := [13]) (by kernel_rfl) (by simp) ?_
              refine AllReadyH.cons (at_list rfl) (fun K hK => ?_) AllReadyH.nil
              go_simp
              refine hK.out _ _ ?_ (fun hHeld => ?_)
              · exact keep5 (bput3 (bput3 QQ.out leA _ _ _) leB _ _ _) HS0.out
              clear hK K
              try simp only [Act.put, List.setIfInBounds_toArray, List.set_cons_zero, List.set_cons_succ]
              refine wpAnyH_done (by kernel_rfl) ?_ _
              refine NoPanic.normal ?_
              go_wp2_with fail
              go_meet
              exact ⟨_, _, rfl, rfl, ((LA.out).put3 _ _ _).aside3 neB _ _ _, ((LB.out).aside3 neA _ _ _).put3 _ _ _, bput3 (bput3 QQ.out leA _ _ _) leB _ _ _⟩
            exact AllReadyH.nil
          refine AllReadyH.cons (at_list rfl) (fun K hK => ?_) ?_
          · go_simp
            refine hK.out _ _ ?_ (fun hHeld => ?_)
            · exact keep5 (bstep (bstep (Q1.out) (bnew _ (.cells #[.int .i64 0, .int .i64 0, .bool false] 24))) (bnew _ (.cells #[.int .i64 0, .int .i64 0, .bool false] 24))) HS0.out
            clear hK K
            try simp only [Act.put, List.setIfInBounds_toArray, List.set_cons_zero, List.set_cons_succ]
            refine wpAnyH_ready (rs := [9]) (by kernel_rfl) (by simp) ?_
            refine AllReadyH.cons (at_list rfl) (fun K hK => ?_) ?_
            · go_simp
              refine (PD1.out _).mono ?_
              rintro e w2 ⟨rfl, hb2⟩
              have Q2 := Lib.hid (bstep (bstep (bstep (Q1.out) (bnew _ (.cells #[.int .i64 0, .int .i64 0, .bool false] 24))) (bnew _ (.cells #[.int .i64 0, .int .i64 0, .bool false] 24))) hb2)
              have KB2 := Lib.hid (((Holds.fresh w1 24 #[.int .i64 0, .int .i64 0, .bool false] (g := w1.heap.size) (by simp)).laid (.cells #[.int .i64 0, .int .i64 0, .bool false] 24)).keptB hb2)
              have KA2 := Lib.hid ((Holds.fresh (w1.alloc (.cells #[.int .i64 0, .int .i64 0, .bool false] 24)) 24 #[.int .i64 0, .int .i64 0, .bool false] (g := w1.heap.size + 1) (by simp)).keptB hb2)
              go_wp2_with fail
              refine hK.out _ _ ?_ (fun hHeld => ?_)
              · exact keep5 Q2.out HS0.out
              clear hK K
              try simp only [Act.put, List.setIfInBounds_toArray, List.set_cons_zero, List.set_cons_succ]
              have LA := Lib.hid (KA2.out)
              have LB := Lib.hid (KB2.out)
              have QQ := Lib.hid (Q2.out)
              have sz1 := (Q1.out).size
              have sz2 := (Q2.out).size
              have sz3 := hb2.size
              try simp at sz3
              have leA : w4.heap.size ≤ w1.heap.size + 1 := by omega
              have leB : w4.heap.size ≤ w1.heap.size := by omega
              have neA : ¬ (w1.heap.size + 1 = w1.heap.size) := by first | omega | (have := hb1.size; simp at this; omega)
              have neB : ¬ (w1.heap.size = w1.heap.size + 1) := fun h => neA h.symm
              clear sz1 sz2 sz3
              have la0 := (LA.out).reads (i := 0) rfl; have la1 := (LA.out).reads (i := 1) rfl; have la2 := (LA.out).reads (i := 2) rfl
              have lb0 := (LB.out).reads (i := 0) rfl; have lb1 := (LB.out).reads (i := 1) rfl; have lb2 := (LB.out).reads (i := 2) rfl
              have la3 := (LA.out).open_ 0; have la4 := (LA.out).open_ 1; have la5 := (LA.out).open_ 2
              have lb3 := (LB.out).open_ 0; have lb4 := (LB.out).open_ 1; have lb5 := (LB.out).open_ 2
              refine wpAnyH_ready (rs := [12]) (by kernel_rfl) (by simp) ?_
              refine AllReadyH.cons (at_list rfl) (fun K hK => ?_) AllReadyH.nil
              go_simp
              refine hK.out _ _ ?_ (fun hHeld => ?_)
              · exact keep5 (bput3 QQ.out leA _ _ _) HS0.out
              clear hK K
              try simp only [Act.put, List.setIfInBounds_toArray, List.set_cons_zero, List.set_cons_succ]
              refine wpAnyH_ready (rs := [13]) (by kernel_rfl) (by simp) ?_
              refine AllReadyH.cons (at_list rfl) (fun K hK => ?_) AllReadyH.nil
              go_simp
              refine hK.out _ _ ?_ (fun hHeld => ?_)
              · exact keep5 (bput3 (bput3 QQ.out leA _ _ _) leB _ _ _) HS0.out
              clear hK K
              try simp only [Act.put, List.setIfInBounds_toArray, List.set_cons_zero, List.set_cons_succ]
              refine wpAnyH_done (by kernel_rfl) ?_ _
              refine NoPanic.normal ?_
              go_wp2_with fail
              go_meet
              exact ⟨_, _, rfl, rfl, ((LA.out).put3 _ _ _).aside3 neB _ _ _, ((LB.out).aside3 neA _ _ _).put3 _ _ _, bput3 (bput3 QQ.out leA _ _ _) leB _ _ _⟩
            exact AllReadyH.nil
          exact AllReadyH.nil
        exact AllReadyH.nil
      refine AllReadyH.cons (at_list rfl) (fun K hK => ?_) ?_
      · go_simp
        refine hK.out _ _ ?_ (fun hHeld => ?_)
        · exact keep5 (bdrew (bnew w4 (.cells #[.int .i64 0, .int .i64 0, .bool false] 24))) HS0.out
        clear hK K
        try simp only [Act.put, List.setIfInBounds_toArray, List.set_cons_zero, List.set_cons_succ]
        refine wpAnyH_ready (rs := [4, 11]) (by kernel_rfl) (by simp) ?_
        refine AllReadyH.cons (at_list rfl) (fun K hK => ?_) ?_
        · go_simp
          refine (PD0.out _).mono ?_
          rintro e w1 ⟨rfl, hb1⟩
          have Q1 := Lib.hid (bstep (bdrew (bnew w4 (.cells #[.int .i64 0, .int .i64 0, .bool false] 24))) hb1)
          have KA1 := Lib.hid (((Holds.fresh w4 24 #[.int .i64 0, .int .i64 0, .bool false] (g := w4.heap.size) (by simp)).drew).keptB hb1)
          go_wp2_with fail
          refine hK.out _ _ ?_ (fun hHeld => ?_)
          · exact keep5 Q1.out HS0.out
          clear hK K
          try simp only [Act.put, List.setIfInBounds_toArray, List.set_cons_zero, List.set_cons_succ]
          refine wpAnyH_ready (rs := [9, 11]) (by kernel_rfl) (by simp) ?_
          refine AllReadyH.cons (at_list rfl) (fun K hK => ?_) ?_
          · go_simp
            refine (PD1.out _).mono ?_
            rintro e w2 ⟨rfl, hb2⟩
            have Q2 := Lib.hid (bstep (Q1.out) hb2)
            have KA2 := Lib.hid ((KA1.out).keptB hb2)
            go_wp2_with fail
            refine hK.out _ _ ?_ (fun hHeld => ?_)
            · exact keep5 Q2.out HS0.out
            clear hK K
            try simp only [Act.put, List.setIfInBounds_toArray, List.set_cons_zero, List.set_cons_succ]
            refine wpAnyH_ready (rs := [11]) (by kernel_rfl) (by simp) ?_
            refine AllReadyH.cons (at_list rfl) (fun K hK => ?_) ?_
            · go_simp
              refine hK.out _ _ ?_ (fun hHeld => ?_)
              · exact keep5 (bstep (Q2.out) (bnew _ (.cells #[.int .i64 0, .int .i64 0, .bool false] 24))) HS0.out
              clear hK K
              try simp only [Act.put, List.setIfInBounds_toArray, List.set_cons_zero, List.set_cons_succ]
              have LA := Lib.hid ((KA2.out).laid (.cells #[.int .i64 0, .int .i64 0, .bool false] 24))
              have LB := Lib.hid (Holds.fresh w2 24 #[.int .i64 0, .int .i64 0, .bool false] (g := w2.heap.size) (by simp))
              have QQ := Lib.hid (bstep (Q2.out) (bnew _ (.cells #[.int .i64 0, .int .i64 0, .bool false] 24)))
              have sz1 := (Q1.out).size
              have sz2 := (Q2.out).size
              have sz3 := hb2.size
              try simp at sz3
              have leA : w4.heap.size ≤ w4.heap.size := by omega
              have leB : w4.heap.size ≤ w2.heap.size := by omega
              have neA : ¬ (w4.heap.size = w2.heap.size) := by first | omega | (have := hb1.size; simp at this; omega)
              have neB : ¬ (w2.heap.size = w4.heap.size) := fun h => neA h.symm
              clear sz1 sz2 sz3
              generalize (w2.alloc (.cells #[.int .i64 0, .int .i64 0, .bool false] 24)) = V at *
              have la0 := (LA.out).reads (i := 0) rfl; have la1 := (LA.out).reads (i := 1) rfl; have la2 := (LA.out).reads (i := 2) rfl
              have lb0 := (LB.out).reads (i := 0) rfl; have lb1 := (LB.out).reads (i := 1) rfl; have lb2 := (LB.out).reads (i := 2) rfl
              have la3 := (LA.out).open_ 0; have la4 := (LA.out).open_ 1; have la5 := (LA.out).open_ 2
              have lb3 := (LB.out).open_ 0; have lb4 := (LB.out).open_ 1; have lb5 := (LB.out).open_ 2
              refine wpAnyH_ready (rs := [12]) (by kernel_rfl) (by simp) ?_
              refine AllReadyH.cons (at_list rfl) (fun K hK => ?_) AllReadyH.nil
              go_simp
              refine hK.out _ _ ?_ (fun hHeld => ?_)
              · exact keep5 (bput3 QQ.out leA _ _ _) HS0.out
              clear hK K
              try simp only [Act.put, List.setIfInBounds_toArray, List.set_cons_zero, List.set_cons_succ]
              refine wpAnyH_ready (rs := [13]) (by kernel_rfl) (by simp) ?_
              refine AllReadyH.cons (at_list rfl) (fun K hK => ?_) AllReadyH.nil
              go_simp
              refine hK.out _ _ ?_ (fun hHeld => ?_)
              · exact keep5 (bput3 (bput3 QQ.out leA _ _ _) leB _ _ _) HS0.out
              clear hK K
              try simp only [Act.put, List.setIfInBounds_toArray, List.set_cons_zero, List.set_cons_succ]
              refine wpAnyH_done (by kernel_rfl) ?_ _
              refine NoPanic.normal ?_
              go_wp2_with fail
              go_meet
              exact ⟨_, _, rfl, rfl, ((LA.out).put3 _ _ _).aside3 neB _ _ _, ((LB.out).aside3 neA _ _ _).put3 _ _ _, bput3 (bput3 QQ.out leA _ _ _) leB _ _ _⟩
            exact AllReadyH.nil
          refine AllReadyH.cons (at_list rfl) (fun K hK => ?_) ?_
          · go_simp
            refine hK.out _ _ ?_ (fun hHeld => ?_)
            · exact keep5 (bstep (Q1.out) (bnew _ (.cells #[.int .i64 0, .int .i64 0, .bool false] 24))) HS0.out
            clear hK K
            try simp only [Act.put, List.setIfInBounds_toArray, List.set_cons_zero, List.set_cons_succ]
            refine wpAnyH_ready (rs := [9]) (by kernel_rfl) (by simp) ?_
            refine AllReadyH.cons (at_list rfl) (fun K hK => ?_) ?_
            · go_simp
              refine (PD1.out _).mono ?_
              rintro e w2 ⟨rfl, hb2⟩
              have Q2 := Lib.hid (bstep (bstep (Q1.out) (bnew _ (.cells #[.int .i64 0, .int .i64 0, .bool false] 24))) hb2)
              have KA2 := Lib.hid (((KA1.out).laid (.cells #[.int .i64 0, .int .i64 0, .bool false] 24)).keptB hb2)
              have KB2 := Lib.hid ((Holds.fresh w1 24 #[.int .i64 0, .int .i64 0, .bool false] (g := w1.heap.size) (by simp)).keptB hb2)
              go_wp2_with fail
              refine hK.out _ _ ?_ (fun hHeld => ?_)
              · exact keep5 Q2.out HS0.out
              clear hK K
              try simp only [Act.put, List.setIfInBounds_toArray, List.set_cons_zero, List.set_cons_succ]
              have LA := Lib.hid (KA2.out)
              have LB := Lib.hid (KB2.out)
              have QQ := Lib.hid (Q2.out)
              have sz1 := (Q1.out).size
              have sz2 := (Q2.out).size
              have sz3 := hb2.size
              try simp at sz3
              have leA : w4.heap.size ≤ w4.heap.size := by omega
              have leB : w4.heap.size ≤ w1.heap.size := by omega
              have neA : ¬ (w4.heap.size = w1.heap.size) := by first | omega | (have := hb1.size; simp at this; omega)
              have neB : ¬ (w1.heap.size = w4.heap.size) := fun h => neA h.symm
              clear sz1 sz2 sz3
              have la0 := (LA.out).reads (i := 0) rfl; have la1 := (LA.out).reads (i := 1) rfl; have la2 := (LA.out).reads (i := 2) rfl
              have lb0 := (LB.out).reads (i := 0) rfl; have lb1 := (LB.out).reads (i := 1) rfl; have lb2 := (LB.out).reads (i := 2) rfl
              have la3 := (LA.out).open_ 0; have la4 := (LA.out).open_ 1; have la5 := (LA.out).open_ 2
              have lb3 := (LB.out).open_ 0; have lb4 := (LB.out).open_ 1; have lb5 := (LB.out).open_ 2
              refine wpAnyH_ready (rs := [12]) (by kernel_rfl) (by simp) ?_
              refine AllReadyH.cons (at_list rfl) (fun K hK => ?_) AllReadyH.nil
              go_simp
              refine hK.out _ _ ?_ (fun hHeld => ?_)
              · exact keep5 (bput3 QQ.out leA _ _ _) HS0.out
              clear hK K
              try simp only [Act.put, List.setIfInBounds_toArray, List.set_cons_zero, List.set_cons_succ]
              refine wpAnyH_ready (rs := [13]) (by kernel_rfl) (by simp) ?_
              refine AllReadyH.cons (at_list rfl) (fun K hK => ?_) AllReadyH.nil
              go_simp
              refine hK.out _ _ ?_ (fun hHeld => ?_)
              · exact keep5 (bput3 (bput3 QQ.out leA _ _ _) leB _ _ _) HS0.out
              clear hK K
              try simp only [Act.put, List.setIfInBounds_toArray, List.set_cons_zero, List.set_cons_succ]
              refine wpAnyH_done (by kernel_rfl) ?_ _
              refine NoPanic.normal ?_
              go_wp2_with fail
              go_meet
              exact ⟨_, _, rfl, rfl, ((LA.out).put3 _ _ _).aside3 neB _ _ _, ((LB.out).aside3 neA _ _ _).put3 _ _ _, bput3 (bput3 QQ.out leA _ _ _) leB _ _ _⟩
            exact AllReadyH.nil
          exact AllReadyH.nil
        refine AllReadyH.cons (at_list rfl) (fun K hK => ?_) ?_
        · go_simp
          refine hK.out _ _ ?_ (fun hHeld => ?_)
          · exact keep5 (bdrew (bstep (bnew w4 (.cells #[.int .i64 0, .int .i64 0, .bool false] 24)) (bnew _ (.cells #[.int .i64 0, .int .i64 0, .bool false] 24)))) HS0.out
          clear hK K
          try simp only [Act.put, List.setIfInBounds_toArray, List.set_cons_zero, List.set_cons_succ]
          refine wpAnyH_ready (rs := [4]) (by kernel_rfl) (by simp) ?_
          refine AllReadyH.cons (at_list rfl) (fun K hK => ?_) ?_
          · go_simp
            refine (PD0.out _).mono ?_
            rintro e w1 ⟨rfl, hb1⟩
            have Q1 := Lib.hid (bstep (bdrew (bstep (bnew w4 (.cells #[.int .i64 0, .int .i64 0, .bool false] 24)) (bnew _ (.cells #[.int .i64 0, .int .i64 0, .bool false] 24)))) hb1)
            have KA1 := Lib.hid (((((Holds.fresh w4 24 #[.int .i64 0, .int .i64 0, .bool false] (g := w4.heap.size) (by simp))).laid (.cells #[.int .i64 0, .int .i64 0, .bool false] 24)).drew).keptB hb1)
            have KB1 := Lib.hid (((Holds.fresh (w4.alloc (.cells #[.int .i64 0, .int .i64 0, .bool false] 24)) 24 #[.int .i64 0, .int .i64 0, .bool false] (g := w4.heap.size + 1) (by simp)).drew).keptB hb1)
            go_wp2_with fail
            refine hK.out _ _ ?_ (fun hHeld => ?_)
            · exact keep5 Q1.out HS0.out
            clear hK K
            try simp only [Act.put, List.setIfInBounds_toArray, List.set_cons_zero, List.set_cons_succ]
            refine wpAnyH_ready (rs := [9]) (by kernel_rfl) (by simp) ?_
            refine AllReadyH.cons (at_list rfl) (fun K hK => ?_) ?_
            · go_simp
              refine (PD1.out _).mono ?_
              rintro e w2 ⟨rfl, hb2⟩
              have Q2 := Lib.hid (bstep (Q1.out) hb2)
              have KA2 := Lib.hid ((KA1.out).keptB hb2)
              have KB2 := Lib.hid ((KB1.out).keptB hb2)
              go_wp2_with fail
              refine hK.out _ _ ?_ (fun hHeld => ?_)
              · exact keep5 Q2.out HS0.out
              clear hK K
              try simp only [Act.put, List.setIfInBounds_toArray, List.set_cons_zero, List.set_cons_succ]
              have LA := Lib.hid (KA2.out)
              have LB := Lib.hid (KB2.out)
              have QQ := Lib.hid (Q2.out)
              have sz1 := (Q1.out).size
              have sz2 := (Q2.out).size
              have sz3 := hb2.size
              try simp at sz3
              have leA : w4.heap.size ≤ w4.heap.size := by omega
              have leB : w4.heap.size ≤ w4.heap.size + 1 := by omega
              have neA : ¬ (w4.heap.size = w4.heap.size + 1) := by first | omega | (have := hb1.size; simp at this; omega)
              have neB : ¬ (w4.heap.size + 1 = w4.heap.size) := fun h => neA h.symm
              clear sz1 sz2 sz3
              have la0 := (LA.out).reads (i := 0) rfl; have la1 := (LA.out).reads (i := 1) rfl; have la2 := (LA.out).reads (i := 2) rfl
              have lb0 := (LB.out).reads (i := 0) rfl; have lb1 := (LB.out).reads (i := 1) rfl; have lb2 := (LB.out).reads (i := 2) rfl
              have la3 := (LA.out).open_ 0; have la4 := (LA.out).open_ 1; have la5 := (LA.out).open_ 2
              have lb3 := (LB.out).open_ 0; have lb4 := (LB.out).open_ 1; have lb5 := (LB.out).open_ 2
              refine wpAnyH_ready (rs := [12]) (by kernel_rfl) (by simp) ?_
              refine AllReadyH.cons (at_list rfl) (fun K hK => ?_) AllReadyH.nil
              go_simp
              refine hK.out _ _ ?_ (fun hHeld => ?_)
              · exact keep5 (bput3 QQ.out leA _ _ _) HS0.out
              clear hK K
              try simp only [Act.put, List.setIfInBounds_toArray, List.set_cons_zero, List.set_cons_succ]
              refine wpAnyH_ready (rs := [13]) (by kernel_rfl) (by simp) ?_
              refine AllReadyH.cons (at_list rfl) (fun K hK => ?_) AllReadyH.nil
              go_simp
              refine hK.out _ _ ?_ (fun hHeld => ?_)
              · exact keep5 (bput3 (bput3 QQ.out leA _ _ _) leB _ _ _) HS0.out
              clear hK K
              try simp only [Act.put, List.setIfInBounds_toArray, List.set_cons_zero, List.set_cons_succ]
              refine wpAnyH_done (by kernel_rfl) ?_ _
              refine NoPanic.normal ?_
              go_wp2_with fail
              go_meet
              exact ⟨_, _, rfl, rfl, ((LA.out).put3 _ _ _).aside3 neB _ _ _, ((LB.out).aside3 neA _ _ _).put3 _ _ _, bput3 (bput3 QQ.out leA _ _ _) leB _ _ _⟩
            exact AllReadyH.nil
          exact AllReadyH.nil
        exact AllReadyH.nil
      refine AllReadyH.cons (at_list rfl) (fun K hK => ?_) ?_
      · go_simp
        refine hK.out _ _ ?_ (fun hHeld => ?_)
        · exact keep5 (bdrew (bnew w4 (.cells #[.int .i64 0, .int .i64 0, .bool false] 24))) HS0.out
        clear hK K
        try simp only [Act.put, List.setIfInBounds_toArray, List.set_cons_zero, List.set_cons_succ]
        refine wpAnyH_ready (rs := [4, 10]) (by kernel_rfl) (by simp) ?_
        refine AllReadyH.cons (at_list rfl) (fun K hK => ?_) ?_
        · go_simp
          refine (PD0.out _).mono ?_
          rintro e w1 ⟨rfl, hb1⟩
          have Q1 := Lib.hid (bstep (bdrew (bnew w4 (.cells #[.int .i64 0, .int .i64 0, .bool false] 24))) hb1)
          have KB1 := Lib.hid (((Holds.fresh w4 24 #[.int .i64 0, .int .i64 0, .bool false] (g := w4.heap.size) (by simp)).drew).keptB hb1)
          go_wp2_with fail
          refine hK.out _ _ ?_ (fun hHeld => ?_)
          · exact keep5 Q1.out HS0.out
          clear hK K
          try simp only [Act.put, List.setIfInBounds_toArray, List.set_cons_zero, List.set_cons_succ]
          refine wpAnyH_ready (rs := [9, 10]) (by kernel_rfl) (by simp) ?_
          refine AllReadyH.cons (at_list rfl) (fun K hK => ?_) ?_
          · go_simp
            refine (PD1.out _).mono ?_
            rintro e w2 ⟨rfl, hb2⟩
            have Q2 := Lib.hid (bstep (Q1.out) hb2)
            have KB2 := Lib.hid ((KB1.out).keptB hb2)
            go_wp2_with fail
            refine hK.out _ _ ?_ (fun hHeld => ?_)
            · exact keep5 Q2.out HS0.out
            clear hK K
            try simp only [Act.put, List.setIfInBounds_toArray, List.set_cons_zero, List.set_cons_succ]
            refine wpAnyH_ready (rs := [10]) (by kernel_rfl) (by simp) ?_
            refine AllReadyH.cons (at_list rfl) (fun K hK => ?_) ?_
            · go_simp
              refine hK.out _ _ ?_ (fun hHeld => ?_)
              · exact keep5 (bstep (Q2.out) (bnew _ (.cells #[.int .i64 0, .int .i64 0, .bool false] 24))) HS0.out
              clear hK K
              try simp only [Act.put, List.setIfInBounds_toArray, List.set_cons_zero, List.set_cons_succ]
              have LA := Lib.hid (Holds.fresh w2 24 #[.int .i64 0, .int .i64 0, .bool false] (g := w2.heap.size) (by simp))
              have LB := Lib.hid ((KB2.out).laid (.cells #[.int .i64 0, .int .i64 0, .bool false] 24))
              have QQ := Lib.hid (bstep (Q2.out) (bnew _ (.cells #[.int .i64 0, .int .i64 0, .bool false] 24)))
              have sz1 := (Q1.out).size
              have sz2 := (Q2.out).size
              have sz3 := hb2.size
              try simp at sz3
              have leA : w4.heap.size ≤ w2.heap.size := by omega
              have leB : w4.heap.size ≤ w4.heap.size := by omega
              have neA : ¬ (w2.heap.size = w4.heap.size) := by first | omega | (have := hb1.size; simp at this; omega)
              have neB : ¬ (w4.heap.size = w2.heap.size) := fun h => neA h.symm
              clear sz1 sz2 sz3
              generalize (w2.alloc (.cells #[.int .i64 0, .int .i64 0, .bool false] 24)) = V at *
              have la0 := (LA.out).reads (i := 0) rfl; have la1 := (LA.out).reads (i := 1) rfl; have la2 := (LA.out).reads (i := 2) rfl
              have lb0 := (LB.out).reads (i := 0) rfl; have lb1 := (LB.out).reads (i := 1) rfl; have lb2 := (LB.out).reads (i := 2) rfl
              have la3 := (LA.out).open_ 0; have la4 := (LA.out).open_ 1; have la5 := (LA.out).open_ 2
              have lb3 := (LB.out).open_ 0; have lb4 := (LB.out).open_ 1; have lb5 := (LB.out).open_ 2
              refine wpAnyH_ready (rs := [12]) (by kernel_rfl) (by simp) ?_
              refine AllReadyH.cons (at_list rfl) (fun K hK => ?_) AllReadyH.nil
              go_simp
              refine hK.out _ _ ?_ (fun hHeld => ?_)
              · exact keep5 (bput3 QQ.out leA _ _ _) HS0.out
              clear hK K
              try simp only [Act.put, List.setIfInBounds_toArray, List.set_cons_zero, List.set_cons_succ]
              refine wpAnyH_ready (rs := [13]) (by kernel_rfl) (by simp) ?_
              refine AllReadyH.cons (at_list rfl) (fun K hK => ?_) AllReadyH.nil
              go_simp
              refine hK.out _ _ ?_ (fun hHeld => ?_)
              · exact keep5 (bput3 (bput3 QQ.out leA _ _ _) leB _ _ _) HS0.out
              clear hK K
              try simp only [Act.put, List.setIfInBounds_toArray, List.set_cons_zero, List.set_cons_succ]
              refine wpAnyH_done (by kernel_rfl) ?_ _
              refine NoPanic.normal ?_
              go_wp2_with fail
              go_meet
              exact ⟨_, _, rfl, rfl, ((LA.out).put3 _ _ _).aside3 neB _ _ _, ((LB.out).aside3 neA _ _ _).put3 _ _ _, bput3 (bput3 QQ.out leA _ _ _) leB _ _ _⟩
            exact AllReadyH.nil
          refine AllReadyH.cons (at_list rfl) (fun K hK => ?_) ?_
          · go_simp
            refine hK.out _ _ ?_ (fun hHeld => ?_)
            · exact keep5 (bstep (Q1.out) (bnew _ (.cells #[.int .i64 0, .int .i64 0, .bool false] 24))) HS0.out
            clear hK K
            try simp only [Act.put, List.setIfInBounds_toArray, List.set_cons_zero, List.set_cons_succ]
            refine wpAnyH_ready (rs := [9]) (by kernel_rfl) (by simp) ?_
            refine AllReadyH.cons (at_list rfl) (fun K hK => ?_) ?_
            · go_simp
              refine (PD1.out _).mono ?_
              rintro e w2 ⟨rfl, hb2⟩
              have Q2 := Lib.hid (bstep (bstep (Q1.out) (bnew _ (.cells #[.int .i64 0, .int .i64 0, .bool false] 24))) hb2)
              have KB2 := Lib.hid (((KB1.out).laid (.cells #[.int .i64 0, .int .i64 0, .bool false] 24)).keptB hb2)
              have KA2 := Lib.hid ((Holds.fresh w1 24 #[.int .i64 0, .int .i64 0, .bool false] (g := w1.heap.size) (by simp)).keptB hb2)
              go_wp2_with fail
              refine hK.out _ _ ?_ (fun hHeld => ?_)
              · exact keep5 Q2.out HS0.out
              clear hK K
              try simp only [Act.put, List.setIfInBounds_toArray, List.set_cons_zero, List.set_cons_succ]
              have LA := Lib.hid (KA2.out)
              have LB := Lib.hid (KB2.out)
              have QQ := Lib.hid (Q2.out)
              have sz1 := (Q1.out).size
              have sz2 := (Q2.out).size
              have sz3 := hb2.size
              try simp at sz3
              have leA : w4.heap.size ≤ w1.heap.size := by omega
              have leB : w4.heap.size ≤ w4.heap.size := by omega
              have neA : ¬ (w1.heap.size = w4.heap.size) := by first | omega | (have := hb1.size; simp at this; omega)
              have neB : ¬ (w4.heap.size = w1.heap.size) := fun h => neA h.symm
              clear sz1 sz2 sz3
              have la0 := (LA.out).reads (i := 0) rfl; have la1 := (LA.out).reads (i := 1) rfl; have la2 := (LA.out).reads (i := 2) rfl
              have lb0 := (LB.out).reads (i := 0) rfl; have lb1 := (LB.out).reads (i := 1) rfl; have lb2 := (LB.out).reads (i := 2) rfl
              have la3 := (LA.out).open_ 0; have la4 := (LA.out).open_ 1; have la5 := (LA.out).open_ 2
              have lb3 := (LB.out).open_ 0; have lb4 := (LB.out).open_ 1; have lb5 := (LB.out).open_ 2
              refine wpAnyH_ready (rs := [12]) (by kernel_rfl) (by simp) ?_
              refine AllReadyH.cons (at_list rfl) (fun K hK => ?_) AllReadyH.nil
              go_simp
              refine hK.out _ _ ?_ (fun hHeld => ?_)
              · exact keep5 (bput3 QQ.out leA _ _ _) HS0.out
              clear hK K
              try simp only [Act.put, List.setIfInBounds_toArray, List.set_cons_zero, List.set_cons_succ]
              refine wpAnyH_ready (rs := [13]) (by kernel_rfl) (by simp) ?_
              refine AllReadyH.cons (at_list rfl) (fun K hK => ?_) AllReadyH.nil
              go_simp
              refine hK.out _ _ ?_ (fun hHeld => ?_)
              · exact keep5 (bput3 (bput3 QQ.out leA _ _ _) leB _ _ _) HS0.out
              clear hK K
              try simp only [Act.put, List.setIfInBounds_toArray, List.set_cons_zero, List.set_cons_succ]
              refine wpAnyH_done (by kernel_rfl) ?_ _
              refine NoPanic.normal ?_
              go_wp2_with fail
              go_meet
              exact ⟨_, _, rfl, rfl, ((LA.out).put3 _ _ _).aside3 neB _ _ _, ((LB.out).aside3 neA _ _ _).put3 _ _ _, bput3 (bput3 QQ.out leA _ _ _) leB _ _ _⟩
            exact AllReadyH.nil
          exact AllReadyH.nil
        refine AllReadyH.cons (at_list rfl) (fun K hK => ?_) ?_
        · go_simp
          refine hK.out _ _ ?_ (fun hHeld => ?_)
          · exact keep5 (bdrew (bstep (bnew w4 (.cells #[.int .i64 0, .int .i64 0, .bool false] 24)) (bnew _ (.cells #[.int .i64 0, .int .i64 0, .bool false] 24)))) HS0.out
          clear hK K
          try simp only [Act.put, List.setIfInBounds_toArray, List.set_cons_zero, List.set_cons_succ]
          refine wpAnyH_ready (rs := [4]) (by kernel_rfl) (by simp) ?_
          refine AllReadyH.cons (at_list rfl) (fun K hK => ?_) ?_
          · go_simp
            refine (PD0.out _).mono ?_
            rintro e w1 ⟨rfl, hb1⟩
            have Q1 := Lib.hid (bstep (bdrew (bstep (bnew w4 (.cells #[.int .i64 0, .int .i64 0, .bool false] 24)) (bnew _ (.cells #[.int .i64 0, .int .i64 0, .bool false] 24)))) hb1)
            have KB1 := Lib.hid (((((Holds.fresh w4 24 #[.int .i64 0, .int .i64 0, .bool false] (g := w4.heap.size) (by simp))).laid (.cells #[.int .i64 0, .int .i64 0, .bool false] 24)).drew).keptB hb1)
            have KA1 := Lib.hid (((Holds.fresh (w4.alloc (.cells #[.int .i64 0, .int .i64 0, .bool false] 24)) 24 #[.int .i64 0, .int .i64 0, .bool false] (g := w4.heap.size + 1) (by simp)).drew).keptB hb1)
            go_wp2_with fail
            refine hK.out _ _ ?_ (fun hHeld => ?_)
            · exact keep5 Q1.out HS0.out
            clear hK K
            try simp only [Act.put, List.setIfInBounds_toArray, List.set_cons_zero, List.set_cons_succ]
            refine wpAnyH_ready (rs := [9]) (by kernel_rfl) (by simp) ?_
            refine AllReadyH.cons (at_list rfl) (fun K hK => ?_) ?_
            · go_simp
              refine (PD1.out _).mono ?_
              rintro e w2 ⟨rfl, hb2⟩
              have Q2 := Lib.hid (bstep (Q1.out) hb2)
              have KB2 := Lib.hid ((KB1.out).keptB hb2)
              have KA2 := Lib.hid ((KA1.out).keptB hb2)
              go_wp2_with fail
              refine hK.out _ _ ?_ (fun hHeld => ?_)
              · exact keep5 Q2.out HS0.out
              clear hK K
              try simp only [Act.put, List.setIfInBounds_toArray, List.set_cons_zero, List.set_cons_succ]
              have LA := Lib.hid (KA2.out)
              have LB := Lib.hid (KB2.out)
              have QQ := Lib.hid (Q2.out)
              have sz1 := (Q1.out).size
              have sz2 := (Q2.out).size
              have sz3 := hb2.size
              try simp at sz3
              have leA : w4.heap.size ≤ w4.heap.size + 1 := by omega
              have leB : w4.heap.size ≤ w4.heap.size := by omega
              have neA : ¬ (w4.heap.size + 1 = w4.heap.size) := by first | omega | (have := hb1.size; simp at this; omega)
              have neB : ¬ (w4.heap.size = w4.heap.size + 1) := fun h => neA h.symm
              clear sz1 sz2 sz3
              have la0 := (LA.out).reads (i := 0) rfl; have la1 := (LA.out).reads (i := 1) rfl; have la2 := (LA.out).reads (i := 2) rfl
              have lb0 := (LB.out).reads (i := 0) rfl; have lb1 := (LB.out).reads (i := 1) rfl; have lb2 := (LB.out).reads (i := 2) rfl
              have la3 := (LA.out).open_ 0; have la4 := (LA.out).open_ 1; have la5 := (LA.out).open_ 2
              have lb3 := (LB.out).open_ 0; have lb4 := (LB.out).open_ 1; have lb5 := (LB.out).open_ 2
              refine wpAnyH_ready (rs := [12]) (by kernel_rfl) (by simp) ?_
              refine AllReadyH.cons (at_list rfl) (fun K hK => ?_) AllReadyH.nil
              go_simp
              refine hK.out _ _ ?_ (fun hHeld => ?_)
              · exact keep5 (bput3 QQ.out leA _ _ _) HS0.out
              clear hK K
              try simp only [Act.put, List.setIfInBounds_toArray, List.set_cons_zero, List.set_cons_succ]
              refine wpAnyH_ready (rs := [13]) (by kernel_rfl) (by simp) ?_
              refine AllReadyH.cons (at_list rfl) (fun K hK => ?_) AllReadyH.nil
              go_simp
              refine hK.out _ _ ?_ (fun hHeld => ?_)
              · exact keep5 (bput3 (bput3 QQ.out leA _ _ _) leB _ _ _) HS0.out
              clear hK K
              try simp only [Act.put, List.setIfInBounds_toArray, List.set_cons_zero, List.set_cons_succ]
              refine wpAnyH_done (by kernel_rfl) ?_ _
              refine NoPanic.normal ?_
              go_wp2_with fail
              go_meet
              exact ⟨_, _, rfl, rfl, ((LA.out).put3 _ _ _).aside3 neB _ _ _, ((LB.out).aside3 neA _ _ _).put3 _ _ _, bput3 (bput3 QQ.out leA _ _ _) leB _ _ _⟩
            exact AllReadyH.nil
          exact AllReadyH.nil
        exact AllReadyH.nil
      exact AllReadyH.nil
    case rest =>
      obtain ⟨g8, g9, rfl, rfl, kA, kB, hb⟩ := hcut
      have K8 := Lib.hid kA
      have K9 := Lib.hid kB
      replace K5 := Lib.hid ((K5.out).keptB hb)
      replace K7 := Lib.hid ((K7.out).keptB hb)
      replace HB := Lib.hid (bstep HB.out hb)
      clear kA kB hb HS0
      clear x5_0 x5_1 x5_2 x6_0 x6_1
      go_wp2_with fail
      have x7_0 := (K7.out).reads (i := 0) rfl
      have x7_1 := (K7.out).reads (i := 1) rfl
      have x7_2 := (K7.out).reads (i := 2) rfl
      have x8_0 := (K5.out).reads (i := 0) rfl
      have x8_1 := (K5.out).reads (i := 1) rfl
      have HS0 := Lib.hid (show wc.cell? ⟨(w2).heap.size, 0, none⟩ = some (.int .i64 s.lo) ∧ wc.cell? ⟨(w2).heap.size, 1, none⟩ = some (.int .i64 s.hi) ∧ wc.cell? ⟨(w2).heap.size, 2, none⟩ = some (.bool s.k) ∧ wc.cell? ⟨w.heap.size + 1, 0, none⟩ = some (.int .i64 q0) ∧ wc.cell? ⟨w.heap.size + 1, 1, none⟩ = some (.int .i64 q1) from ⟨x7_0, x7_1, x7_2, x8_0, x8_1⟩)
      go_cut [10, 11] (fun p q wx => Pair S0 S1 wc p q wx)
      case first =>
        refine wp_region_noPanic ?_
        refine wp_region_held_drew (S := fun v => v.cell? ⟨(w2).heap.size, 0, none⟩ = some (.int .i64 s.lo) ∧ v.cell? ⟨(w2).heap.size, 1, none⟩ = some (.int .i64 s.hi) ∧ v.cell? ⟨(w2).heap.size, 2, none⟩ = some (.bool s.k) ∧ v.cell? ⟨w.heap.size + 1, 0, none⟩ = some (.int .i64 q0) ∧ v.cell? ⟨w.heap.size + 1, 1, none⟩ = some (.int .i64 q1)) (by kernel_rfl) ?_ (fun hHeld => ?_)
        · exact HS0.out
        refine wpAnyH_take (i := 0) (v := .agg #[.int .i64 (s).lo, .int .i64 (s).hi, .bool (s).k]) (at_list rfl) (by kernel_rfl) (by kernel_rfl) (by kernel_rfl) (fun _ _ _ h => h) (Or.inl ⟨by rfl, ?_⟩) (by assumption) ?_
        · intro v hSv
          obtain ⟨q0, q1, q2, q3, q4⟩ := hSv
          go_simp
        try simp only [Act.put, List.setIfInBounds_toArray, List.set_cons_zero, List.set_cons_succ]
        refine wpAnyH_take (i := 1) (v := .pointer (some ⟨w.heap.size + 1, 0, none⟩)) (at_list rfl) (by kernel_rfl) (by kernel_rfl) (by kernel_rfl) (fun _ _ _ h => h) (Or.inl ⟨by rfl, ?_⟩) (by assumption) ?_
        · intro v hSv
          obtain ⟨q0, q1, q2, q3, q4⟩ := hSv
          go_simp
        try simp only [Act.put, List.setIfInBounds_toArray, List.set_cons_zero, List.set_cons_succ]
        refine wpAnyH_take (i := 2) (v := .int .i64 q0) (at_list rfl) (by kernel_rfl) (by kernel_rfl) (by kernel_rfl) (fun _ _ _ h => h) (Or.inl ⟨by rfl, ?_⟩) (by assumption) ?_
        · intro v hSv
          obtain ⟨q0, q1, q2, q3, q4⟩ := hSv
          go_simp
        try simp only [Act.put, List.setIfInBounds_toArray, List.set_cons_zero, List.set_cons_succ]
        refine wpAnyH_take (i := 4) (v := .agg #[.int .i64 (s).lo, .int .i64 (s).hi, .bool (s).k]) (at_list rfl) (by kernel_rfl) (by kernel_rfl) (by kernel_rfl) (fun _ _ _ h => h) (Or.inl ⟨by rfl, ?_⟩) (by assumption) ?_
        · intro v hSv
          obtain ⟨q0, q1, q2, q3, q4⟩ := hSv
          go_simp
        try simp only [Act.put, List.setIfInBounds_toArray, List.set_cons_zero, List.set_cons_succ]
        refine wpAnyH_take (i := 5) (v := .pointer (some ⟨w.heap.size + 1, 1, none⟩)) (at_list rfl) (by kernel_rfl) (by kernel_rfl) (by kernel_rfl) (fun _ _ _ h => h) (Or.inl ⟨by rfl, ?_⟩) (by assumption) ?_
        · intro v hSv
          obtain ⟨q0, q1, q2, q3, q4⟩ := hSv
          go_simp
        try simp only [Act.put, List.setIfInBounds_toArray, List.set_cons_zero, List.set_cons_succ]
        refine wpAnyH_take (i := 6) (v := .int .i64 q1) (at_list rfl) (by kernel_rfl) (by kernel_rfl) (by kernel_rfl) (fun _ _ _ h => h) (Or.inl ⟨by rfl, ?_⟩) (by assumption) ?_
        · intro v hSv
          obtain ⟨q0, q1, q2, q3, q4⟩ := hSv
          go_simp
        try simp only [Act.put, List.setIfInBounds_toArray, List.set_cons_zero, List.set_cons_succ]
        refine wpAnyH_ready (rs := [3, 8, 9]) (by kernel_rfl) (by simp) ?_
        refine AllReadyH.cons (at_list rfl) (fun K hK => ?_) ?_
        · go_simp
          refine (PS0.out _).mono ?_
          rintro e w1 ⟨rfl, hb1⟩
          have Q1 := Lib.hid (bstep (bdrew (Below.refl _ _)) hb1)
          go_wp2_with fail
          refine hK.out _ _ ?_ (fun hHeld => ?_)
          · exact keep5 Q1.out HS0.out
          clear hK K
          try simp only [Act.put, List.setIfInBounds_toArray, List.set_cons_zero, List.set_cons_succ]
          refine wpAnyH_ready (rs := [7, 8, 9]) (by kernel_rfl) (by simp) ?_
          refine AllReadyH.cons (at_list rfl) (fun K hK => ?_) ?_
          · go_simp
            refine (PS1.out _).mono ?_
            rintro e w2 ⟨rfl, hb2⟩
            have Q2 := Lib.hid (bstep (Q1.out) hb2)
            go_wp2_with fail
            refine hK.out _ _ ?_ (fun hHeld => ?_)
            · exact keep5 Q2.out HS0.out
            clear hK K
            try simp only [Act.put, List.setIfInBounds_toArray, List.set_cons_zero, List.set_cons_succ]
            refine wpAnyH_ready (rs := [8, 9]) (by kernel_rfl) (by simp) ?_
            refine AllReadyH.cons (at_list rfl) (fun K hK => ?_) ?_
            · go_simp
              refine hK.out _ _ ?_ (fun hHeld => ?_)
              · exact keep5 (bstep (Q2.out) (bnew _ (.cells #[.int .i64 0, .int .i64 0, .bool false] 24))) HS0.out
              clear hK K
              try simp only [Act.put, List.setIfInBounds_toArray, List.set_cons_zero, List.set_cons_succ]
              refine wpAnyH_ready (rs := [9]) (by kernel_rfl) (by simp) ?_
              refine AllReadyH.cons (at_list rfl) (fun K hK => ?_) ?_
              · go_simp
                refine hK.out _ _ ?_ (fun hHeld => ?_)
                · exact keep5 (bstep (bstep (Q2.out) (bnew _ (.cells #[.int .i64 0, .int .i64 0, .bool false] 24))) (bnew _ (.cells #[.int .i64 0, .int .i64 0, .bool false] 24))) HS0.out
                clear hK K
                try simp only [Act.put, List.setIfInBounds_toArray, List.set_cons_zero, List.set_cons_succ]
                have LA := Lib.hid ((Holds.fresh w2 24 #[.int .i64 0, .int .i64 0, .bool false] (g := w2.heap.size) (by simp)).laid (.cells #[.int .i64 0, .int .i64 0, .bool false] 24))
                have LB := Lib.hid (Holds.fresh (w2.alloc (.cells #[.int .i64 0, .int .i64 0, .bool false] 24)) 24 #[.int .i64 0, .int .i64 0, .bool false] (g := w2.heap.size + 1) (by simp))
                have QQ := Lib.hid (bstep (bstep (Q2.out) (bnew _ (.cells #[.int .i64 0, .int .i64 0, .bool false] 24))) (bnew _ (.cells #[.int .i64 0, .int .i64 0, .bool false] 24)))
                have sz1 := (Q1.out).size
                have sz2 := (Q2.out).size
                have sz3 := hb2.size
                try simp at sz3
                have leA : wc.heap.size ≤ w2.heap.size := by omega
                have leB : wc.heap.size ≤ w2.heap.size + 1 := by omega
                have neA : ¬ (w2.heap.size = w2.heap.size + 1) := by first | omega | (have := hb1.size; simp at this; omega)
                have neB : ¬ (w2.heap.size + 1 = w2.heap.size) := fun h => neA h.symm
                clear sz1 sz2 sz3
                generalize ((w2.alloc (.cells #[.int .i64 0, .int .i64 0, .bool false] 24)).alloc (.cells #[.int .i64 0, .int .i64 0, .bool false] 24)) = V at *
                have la0 := (LA.out).reads (i := 0) rfl; have la1 := (LA.out).reads (i := 1) rfl; have la2 := (LA.out).reads (i := 2) rfl
                have lb0 := (LB.out).reads (i := 0) rfl; have lb1 := (LB.out).reads (i := 1) rfl; have lb2 := (LB.out).reads (i := 2) rfl
                have la3 := (LA.out).open_ 0; have la4 := (LA.out).open_ 1; have la5 := (LA.out).open_ 2
                have lb3 := (LB.out).open_ 0; have lb4 := (LB.out).open_ 1; have lb5 := (LB.out).open_ 2
                refine wpAnyH_ready (rs := [10]) (by kernel_rfl) (by simp) ?_
                refine AllReadyH.cons (at_list rfl) (fun K hK => ?_) AllReadyH.nil
                go_simp
                refine hK.out _ _ ?_ (fun hHeld => ?_)
                · exact keep5 (bput3 QQ.out leA _ _ _) HS0.out
                clear hK K
                try simp only [Act.put, List.setIfInBounds_toArray, List.set_cons_zero, List.set_cons_succ]
                refine wpAnyH_ready (rs := [11]) (by kernel_rfl) (by simp) ?_
                refine AllReadyH.cons (at_list rfl) (fun K hK => ?_) AllReadyH.nil
                go_simp
                refine hK.out _ _ ?_ (fun hHeld => ?_)
                · exact keep5 (bput3 (bput3 QQ.out leA _ _ _) leB _ _ _) HS0.out
                clear hK K
                try simp only [Act.put, List.setIfInBounds_toArray, List.set_cons_zero, List.set_cons_succ]
                refine wpAnyH_done (by kernel_rfl) ?_ _
                refine NoPanic.normal ?_
                go_wp2_with fail
                go_meet
                exact ⟨_, _, rfl, rfl, ((LA.out).put3 _ _ _).aside3 neB _ _ _, ((LB.out).aside3 neA _ _ _).put3 _ _ _, bput3 (bput3 QQ.out leA _ _ _) leB _ _ _⟩
              exact AllReadyH.nil
            refine AllReadyH.cons (at_list rfl) (fun K hK => ?_) ?_
            · go_simp
              refine hK.out _ _ ?_ (fun hHeld => ?_)
              · exact keep5 (bstep (Q2.out) (bnew _ (.cells #[.int .i64 0, .int .i64 0, .bool false] 24))) HS0.out
              clear hK K
              try simp only [Act.put, List.setIfInBounds_toArray, List.set_cons_zero, List.set_cons_succ]
              refine wpAnyH_ready (rs := [8]) (by kernel_rfl) (by simp) ?_
              refine AllReadyH.cons (at_list rfl) (fun K hK => ?_) ?_
              · go_simp
                refine hK.out _ _ ?_ (fun hHeld => ?_)
                · exact keep5 (bstep (bstep (Q2.out) (bnew _ (.cells #[.int .i64 0, .int .i64 0, .bool false] 24))) (bnew _ (.cells #[.int .i64 0, .int .i64 0, .bool false] 24))) HS0.out
                clear hK K
                try simp only [Act.put, List.setIfInBounds_toArray, List.set_cons_zero, List.set_cons_succ]
                have LA := Lib.hid (Holds.fresh (w2.alloc (.cells #[.int .i64 0, .int .i64 0, .bool false] 24)) 24 #[.int .i64 0, .int .i64 0, .bool false] (g := w2.heap.size + 1) (by simp))
                have LB := Lib.hid ((Holds.fresh w2 24 #[.int .i64 0, .int .i64 0, .bool false] (g := w2.heap.size) (by simp)).laid (.cells #[.int .i64 0, .int .i64 0, .bool false] 24))
                have QQ := Lib.hid (bstep (bstep (Q2.out) (bnew _ (.cells #[.int .i64 0, .int .i64 0, .bool false] 24))) (bnew _ (.cells #[.int .i64 0, .int .i64 0, .bool false] 24)))
                have sz1 := (Q1.out).size
                have sz2 := (Q2.out).size
                have sz3 := hb2.size
                try simp at sz3
                have leA : wc.heap.size ≤ w2.heap.size + 1 := by omega
                have leB : wc.heap.size ≤ w2.heap.size := by omega
                have neA : ¬ (w2.heap.size + 1 = w2.heap.size) := by first | omega | (have := hb1.size; simp at this; omega)
                have neB : ¬ (w2.heap.size = w2.heap.size + 1) := fun h => neA h.symm
                clear sz1 sz2 sz3
                generalize ((w2.alloc (.cells #[.int .i64 0, .int .i64 0, .bool false] 24)).alloc (.cells #[.int .i64 0, .int .i64 0, .bool false] 24)) = V at *
                have la0 := (LA.out).reads (i := 0) rfl; have la1 := (LA.out).reads (i := 1) rfl; have la2 := (LA.out).reads (i := 2) rfl
                have lb0 := (LB.out).reads (i := 0) rfl; have lb1 := (LB.out).reads (i := 1) rfl; have lb2 := (LB.out).reads (i := 2) rfl
                have la3 := (LA.out).open_ 0; have la4 := (LA.out).open_ 1; have la5 := (LA.out).open_ 2
                have lb3 := (LB.out).open_ 0; have lb4 := (LB.out).open_ 1; have lb5 := (LB.out).open_ 2
                refine wpAnyH_ready (rs := [10]) (by kernel_rfl) (by simp) ?_
                refine AllReadyH.cons (at_list rfl) (fun K hK => ?_) AllReadyH.nil
                go_simp
                refine hK.out _ _ ?_ (fun hHeld => ?_)
                · exact keep5 (bput3 QQ.out leA _ _ _) HS0.out
                clear hK K
                try simp only [Act.put, List.setIfInBounds_toArray, List.set_cons_zero, List.set_cons_succ]
                refine wpAnyH_ready (rs := [11]) (by kernel_rfl) (by simp) ?_
                refine AllReadyH.cons (at_list rfl) (fun K hK => ?_) AllReadyH.nil
                go_simp
                refine hK.out _ _ ?_ (fun hHeld => ?_)
                · exact keep5 (bput3 (bput3 QQ.out leA _ _ _) leB _ _ _) HS0.out
                clear hK K
                try simp only [Act.put, List.setIfInBounds_toArray, List.set_cons_zero, List.set_cons_succ]
                refine wpAnyH_done (by kernel_rfl) ?_ _
                refine NoPanic.normal ?_
                go_wp2_with fail
                go_meet
                exact ⟨_, _, rfl, rfl, ((LA.out).put3 _ _ _).aside3 neB _ _ _, ((LB.out).aside3 neA _ _ _).put3 _ _ _, bput3 (bput3 QQ.out leA _ _ _) leB _ _ _⟩
              exact AllReadyH.nil
            exact AllReadyH.nil
          refine AllReadyH.cons (at_list rfl) (fun K hK => ?_) ?_
          · go_simp
            refine hK.out _ _ ?_ (fun hHeld => ?_)
            · exact keep5 (bstep (Q1.out) (bnew _ (.cells #[.int .i64 0, .int .i64 0, .bool false] 24))) HS0.out
            clear hK K
            try simp only [Act.put, List.setIfInBounds_toArray, List.set_cons_zero, List.set_cons_succ]
            refine wpAnyH_ready (rs := [7, 9]) (by kernel_rfl) (by simp) ?_
            refine AllReadyH.cons (at_list rfl) (fun K hK => ?_) ?_
            · go_simp
              refine (PS1.out _).mono ?_
              rintro e w2 ⟨rfl, hb2⟩
              have Q2 := Lib.hid (bstep (bstep (Q1.out) (bnew _ (.cells #[.int .i64 0, .int .i64 0, .bool false] 24))) hb2)
              have KA2 := Lib.hid ((Holds.fresh w1 24 #[.int .i64 0, .int .i64 0, .bool false] (g := w1.heap.size) (by simp)).keptB hb2)
              go_wp2_with fail
              refine hK.out _ _ ?_ (fun hHeld => ?_)
              · exact keep5 Q2.out HS0.out
              clear hK K
              try simp only [Act.put, List.setIfInBounds_toArray, List.set_cons_zero, List.set_cons_succ]
              refine wpAnyH_ready (rs := [9]) (by kernel_rfl) (by simp) ?_
              refine AllReadyH.cons (at_list rfl) (fun K hK => ?_) ?_
              · go_simp
                refine hK.out _ _ ?_ (fun hHeld => ?_)
                · exact keep5 (bstep (Q2.out) (bnew _ (.cells #[.int .i64 0, .int .i64 0, .bool false] 24))) HS0.out
                clear hK K
                try simp only [Act.put, List.setIfInBounds_toArray, List.set_cons_zero, List.set_cons_succ]
                have LA := Lib.hid ((KA2.out).laid (.cells #[.int .i64 0, .int .i64 0, .bool false] 24))
                have LB := Lib.hid (Holds.fresh w2 24 #[.int .i64 0, .int .i64 0, .bool false] (g := w2.heap.size) (by simp))
                have QQ := Lib.hid (bstep (Q2.out) (bnew _ (.cells #[.int .i64 0, .int .i64 0, .bool false] 24)))
                have sz1 := (Q1.out).size
                have sz2 := (Q2.out).size
                have sz3 := hb2.size
                try simp at sz3
                have leA : wc.heap.size ≤ w1.heap.size := by omega
                have leB : wc.heap.size ≤ w2.heap.size := by omega
                have neA : ¬ (w1.heap.size = w2.heap.size) := by first | omega | (have := hb1.size; simp at this; omega)
                have neB : ¬ (w2.heap.size = w1.heap.size) := fun h => neA h.symm
                clear sz1 sz2 sz3
                generalize (w2.alloc (.cells #[.int .i64 0, .int .i64 0, .bool false] 24)) = V at *
                have la0 := (LA.out).reads (i := 0) rfl; have la1 := (LA.out).reads (i := 1) rfl; have la2 := (LA.out).reads (i := 2) rfl
                have lb0 := (LB.out).reads (i := 0) rfl; have lb1 := (LB.out).reads (i := 1) rfl; have lb2 := (LB.out).reads (i := 2) rfl
                have la3 := (LA.out).open_ 0; have la4 := (LA.out).open_ 1; have la5 := (LA.out).open_ 2
                have lb3 := (LB.out).open_ 0; have lb4 := (LB.out).open_ 1; have lb5 := (LB.out).open_ 2
                refine wpAnyH_ready (rs := [10]) (by kernel_rfl) (by simp) ?_
                refine AllReadyH.cons (at_list rfl) (fun K hK => ?_) AllReadyH.nil
                go_simp
                refine hK.out _ _ ?_ (fun hHeld => ?_)
                · exact keep5 (bput3 QQ.out leA _ _ _) HS0.out
                clear hK K
                try simp only [Act.put, List.setIfInBounds_toArray, List.set_cons_zero, List.set_cons_succ]
                refine wpAnyH_ready (rs := [11]) (by kernel_rfl) (by simp) ?_
                refine AllReadyH.cons (at_list rfl) (fun K hK => ?_) AllReadyH.nil
                go_simp
                refine hK.out _ _ ?_ (fun hHeld => ?_)
                · exact keep5 (bput3 (bput3 QQ.out leA _ _ _) leB _ _ _) HS0.out
                clear hK K
                try simp only [Act.put, List.setIfInBounds_toArray, List.set_cons_zero, List.set_cons_succ]
                refine wpAnyH_done (by kernel_rfl) ?_ _
                refine NoPanic.normal ?_
                go_wp2_with fail
                go_meet
                exact ⟨_, _, rfl, rfl, ((LA.out).put3 _ _ _).aside3 neB _ _ _, ((LB.out).aside3 neA _ _ _).put3 _ _ _, bput3 (bput3 QQ.out leA _ _ _) leB _ _ _⟩
              exact AllReadyH.nil
            refine AllReadyH.cons (at_list rfl) (fun K hK => ?_) ?_
            · go_simp
              refine hK.out _ _ ?_ (fun hHeld => ?_)
              · exact keep5 (bstep (bstep (Q1.out) (bnew _ (.cells #[.int .i64 0, .int .i64 0, .bool false] 24))) (bnew _ (.cells #[.int .i64 0, .int .i64 0, .bool false] 24))) HS0.out
              clear hK K
              try simp only [Act.put, List.setIfInBounds_toArray, List.set_cons_zero, List.set_cons_succ]
              refine wpAnyH_ready (rs := [7]) (by kernel_rfl) (by simp) ?_
              refine AllReadyH.cons (at_list rfl) (fun K hK => ?_) ?_
              · go_simp
                refine (PS1.out _).mono ?_
                rintro e w2 ⟨rfl, hb2⟩
                have Q2 := Lib.hid (bstep (bstep (bstep (Q1.out) (bnew _ (.cells #[.int .i64 0, .int .i64 0, .bool false] 24))) (bnew _ (.cells #[.int .i64 0, .int .i64 0, .bool false] 24))) hb2)
                have KA2 := Lib.hid (((Holds.fresh w1 24 #[.int .i64 0, .int .i64 0, .bool false] (g := w1.heap.size) (by simp)).laid (.cells #[.int .i64 0, .int .i64 0, .bool false] 24)).keptB hb2)
                have KB2 := Lib.hid ((Holds.fresh (w1.alloc (.cells #[.int .i64 0, .int .i64 0, .bool false] 24)) 24 #[.int .i64 0, .int .i64 0, .bool false] (g := w1.heap.size + 1) (by simp)).keptB hb2)
                go_wp2_with fail
                refine hK.out _ _ ?_ (fun hHeld => ?_)
                · exact keep5 Q2.out HS0.out
                clear hK K
                try simp only [Act.put, List.setIfInBounds_toArray, List.set_cons_zero, List.set_cons_succ]
                have LA := Lib.hid (KA2.out)
                have LB := Lib.hid (KB2.out)
                have QQ := Lib.hid (Q2.out)
                have sz1 := (Q1.out).size
                have sz2 := (Q2.out).size
                have sz3 := hb2.size
                try simp at sz3
                have leA : wc.heap.size ≤ w1.heap.size := by omega
                have leB : wc.heap.size ≤ w1.heap.size + 1 := by omega
                have neA : ¬ (w1.heap.size = w1.heap.size + 1) := by first | omega | (have := hb1.size; simp at this; omega)
                have neB : ¬ (w1.heap.size + 1 = w1.heap.size) := fun h => neA h.symm
                clear sz1 sz2 sz3
                have la0 := (LA.out).reads (i := 0) rfl; have la1 := (LA.out).reads (i := 1) rfl; have la2 := (LA.out).reads (i := 2) rfl
                have lb0 := (LB.out).reads (i := 0) rfl; have lb1 := (LB.out).reads (i := 1) rfl; have lb2 := (LB.out).reads (i := 2) rfl
                have la3 := (LA.out).open_ 0; have la4 := (LA.out).open_ 1; have la5 := (LA.out).open_ 2
                have lb3 := (LB.out).open_ 0; have lb4 := (LB.out).open_ 1; have lb5 := (LB.out).open_ 2
                refine wpAnyH_ready (rs := [10]) (by kernel_rfl) (by simp) ?_
                refine AllReadyH.cons (at_list rfl) (fun K hK => ?_) AllReadyH.nil
                go_simp
                refine hK.out _ _ ?_ (fun hHeld => ?_)
                · exact keep5 (bput3 QQ.out leA _ _ _) HS0.out
                clear hK K
                try simp only [Act.put, List.setIfInBounds_toArray, List.set_cons_zero, List.set_cons_succ]
                refine wpAnyH_ready (rs := [11]) (by kernel_rfl) (by simp) ?_
                refine AllReadyH.cons (at_list rfl) (fun K hK => ?_) AllReadyH.nil
                go_simp
                refine hK.out _ _ ?_ (fun hHeld => ?_)
                · exact keep5 (bput3 (bput3 QQ.out leA _ _ _) leB _ _ _) HS0.out
                clear hK K
                try simp only [Act.put, List.setIfInBounds_toArray, List.set_cons_zero, List.set_cons_succ]
                refine wpAnyH_done (by kernel_rfl) ?_ _
                refine NoPanic.normal ?_
                go_wp2_with fail
                go_meet
                exact ⟨_, _, rfl, rfl, ((LA.out).put3 _ _ _).aside3 neB _ _ _, ((LB.out).aside3 neA _ _ _).put3 _ _ _, bput3 (bput3 QQ.out leA _ _ _) leB _ _ _⟩
              exact AllReadyH.nil
            exact AllReadyH.nil
          refine AllReadyH.cons (at_list rfl) (fun K hK => ?_) ?_
          · go_simp
            refine hK.out _ _ ?_ (fun hHeld => ?_)
            · exact keep5 (bstep (Q1.out) (bnew _ (.cells #[.int .i64 0, .int .i64 0, .bool false] 24))) HS0.out
            clear hK K
            try simp only [Act.put, List.setIfInBounds_toArray, List.set_cons_zero, List.set_cons_succ]
            refine wpAnyH_ready (rs := [7, 8]) (by kernel_rfl) (by simp) ?_
            refine AllReadyH.cons (at_list rfl) (fun K hK => ?_) ?_
            · go_simp
              refine (PS1.out _).mono ?_
              rintro e w2 ⟨rfl, hb2⟩
              have Q2 := Lib.hid (bstep (bstep (Q1.out) (bnew _ (.cells #[.int .i64 0, .int .i64 0, .bool false] 24))) hb2)
              have KB2 := Lib.hid ((Holds.fresh w1 24 #[.int .i64 0, .int .i64 0, .bool false] (g := w1.heap.size) (by simp)).keptB hb2)
              go_wp2_with fail
              refine hK.out _ _ ?_ (fun hHeld => ?_)
              · exact keep5 Q2.out HS0.out
              clear hK K
              try simp only [Act.put, List.setIfInBounds_toArray, List.set_cons_zero, List.set_cons_succ]
              refine wpAnyH_ready (rs := [8]) (by kernel_rfl) (by simp) ?_
              refine AllReadyH.cons (at_list rfl) (fun K hK => ?_) ?_
              · go_simp
                refine hK.out _ _ ?_ (fun hHeld => ?_)
                · exact keep5 (bstep (Q2.out) (bnew _ (.cells #[.int .i64 0, .int .i64 0, .bool false] 24))) HS0.out
                clear hK K
                try simp only [Act.put, List.setIfInBounds_toArray, List.set_cons_zero, List.set_cons_succ]
                have LA := Lib.hid (Holds.fresh w2 24 #[.int .i64 0, .int .i64 0, .bool false] (g := w2.heap.size) (by simp))
                have LB := Lib.hid ((KB2.out).laid (.cells #[.int .i64 0, .int .i64 0, .bool false] 24))
                have QQ := Lib.hid (bstep (Q2.out) (bnew _ (.cells #[.int .i64 0, .int .i64 0, .bool false] 24)))
                have sz1 := (Q1.out).size
                have sz2 := (Q2.out).size
                have sz3 := hb2.size
                try simp at sz3
                have leA : wc.heap.size ≤ w2.heap.size := by omega
                have leB : wc.heap.size ≤ w1.heap.size := by omega
                have neA : ¬ (w2.heap.size = w1.heap.size) := by first | omega | (have := hb1.size; simp at this; omega)
                have neB : ¬ (w1.heap.size = w2.heap.size) := fun h => neA h.symm
                clear sz1 sz2 sz3
                generalize (w2.alloc (.cells #[.int .i64 0, .int .i64 0, .bool false] 24)) = V at *
                have la0 := (LA.out).reads (i := 0) rfl; have la1 := (LA.out).reads (i := 1) rfl; have la2 := (LA.out).reads (i := 2) rfl
                have lb0 := (LB.out).reads (i := 0) rfl; have lb1 := (LB.out).reads (i := 1) rfl; have lb2 := (LB.out).reads (i := 2) rfl
                have la3 := (LA.out).open_ 0; have la4 := (LA.out).open_ 1; have la5 := (LA.out).open_ 2
                have lb3 := (LB.out).open_ 0; have lb4 := (LB.out).open_ 1; have lb5 := (LB.out).open_ 2
                refine wpAnyH_ready (rs := [10]) (by kernel_rfl) (by simp) ?_
                refine AllReadyH.cons (at_list rfl) (fun K hK => ?_) AllReadyH.nil
                go_simp
                refine hK.out _ _ ?_ (fun hHeld => ?_)
                · exact keep5 (bput3 QQ.out leA _ _ _) HS0.out
                clear hK K
                try simp only [Act.put, List.setIfInBounds_toArray, List.set_cons_zero, List.set_cons_succ]
                refine wpAnyH_ready (rs := [11]) (by kernel_rfl) (by simp) ?_
                refine AllReadyH.cons (at_list rfl) (fun K hK => ?_) AllReadyH.nil
                go_simp
                refine hK.out _ _ ?_ (fun hHeld => ?_)
                · exact keep5 (bput3 (bput3 QQ.out leA _ _ _) leB _ _ _) HS0.out
                clear hK K
                try simp only [Act.put, List.setIfInBounds_toArray, List.set_cons_zero, List.set_cons_succ]
                refine wpAnyH_done (by kernel_rfl) ?_ _
                refine NoPanic.normal ?_
                go_wp2_with fail
                go_meet
                exact ⟨_, _, rfl, rfl, ((LA.out).put3 _ _ _).aside3 neB _ _ _, ((LB.out).aside3 neA _ _ _).put3 _ _ _, bput3 (bput3 QQ.out leA _ _ _) leB _ _ _⟩
              exact AllReadyH.nil
            refine AllReadyH.cons (at_list rfl) (fun K hK => ?_) ?_
            · go_simp
              refine hK.out _ _ ?_ (fun hHeld => ?_)
              · exact keep5 (bstep (bstep (Q1.out) (bnew _ (.cells #[.int .i64 0, .int .i64 0, .bool false] 24))) (bnew _ (.cells #[.int .i64 0, .int .i64 0, .bool false] 24))) HS0.out
              clear hK K
              try simp only [Act.put, List.setIfInBounds_toArray, List.set_cons_zero, List.set_cons_succ]
              refine wpAnyH_ready (rs := [7]) (by kernel_rfl) (by simp) ?_
              refine AllReadyH.cons (at_list rfl) (fun K hK => ?_) ?_
              · go_simp
                refine (PS1.out _).mono ?_
                rintro e w2 ⟨rfl, hb2⟩
                have Q2 := Lib.hid (bstep (bstep (bstep (Q1.out) (bnew _ (.cells #[.int .i64 0, .int .i64 0, .bool false] 24))) (bnew _ (.cells #[.int .i64 0, .int .i64 0, .bool false] 24))) hb2)
                have KB2 := Lib.hid (((Holds.fresh w1 24 #[.int .i64 0, .int .i64 0, .bool false] (g := w1.heap.size) (by simp)).laid (.cells #[.int .i64 0, .int .i64 0, .bool false] 24)).keptB hb2)
                have KA2 := Lib.hid ((Holds.fresh (w1.alloc (.cells #[.int .i64 0, .int .i64 0, .bool false] 24)) 24 #[.int .i64 0, .int .i64 0, .bool false] (g := w1.heap.size + 1) (by simp)).keptB hb2)
                go_wp2_with fail
                refine hK.out _ _ ?_ (fun hHeld => ?_)
                · exact keep5 Q2.out HS0.out
                clear hK K
                try simp only [Act.put, List.setIfInBounds_toArray, List.set_cons_zero, List.set_cons_succ]
                have LA := Lib.hid (KA2.out)
                have LB := Lib.hid (KB2.out)
                have QQ := Lib.hid (Q2.out)
                have sz1 := (Q1.out).size
                have sz2 := (Q2.out).size
                have sz3 := hb2.size
                try simp at sz3
                have leA : wc.heap.size ≤ w1.heap.size + 1 := by omega
                have leB : wc.heap.size ≤ w1.heap.size := by omega
                have neA : ¬ (w1.heap.size + 1 = w1.heap.size) := by first | omega | (have := hb1.size; simp at this; omega)
                have neB : ¬ (w1.heap.size = w1.heap.size + 1) := fun h => neA h.symm
                clear sz1 sz2 sz3
                have la0 := (LA.out).reads (i := 0) rfl; have la1 := (LA.out).reads (i := 1) rfl; have la2 := (LA.out).reads (i := 2) rfl
                have lb0 := (LB.out).reads (i := 0) rfl; have lb1 := (LB.out).reads (i := 1) rfl; have lb2 := (LB.out).reads (i := 2) rfl
                have la3 := (LA.out).open_ 0; have la4 := (LA.out).open_ 1; have la5 := (LA.out).open_ 2
                have lb3 := (LB.out).open_ 0; have lb4 := (LB.out).open_ 1; have lb5 := (LB.out).open_ 2
                refine wpAnyH_ready (rs := [10]) (by kernel_rfl) (by simp) ?_
                refine AllReadyH.cons (at_list rfl) (fun K hK => ?_) AllReadyH.nil
                go_simp
                refine hK.out _ _ ?_ (fun hHeld => ?_)
                · exact keep5 (bput3 QQ.out leA _ _ _) HS0.out
                clear hK K
                try simp only [Act.put, List.setIfInBounds_toArray, List.set_cons_zero, List.set_cons_succ]
                refine wpAnyH_ready (rs := [11]) (by kernel_rfl) (by simp) ?_
                refine AllReadyH.cons (at_list rfl) (fun K hK => ?_) AllReadyH.nil
                go_simp
                refine hK.out _ _ ?_ (fun hHeld => ?_)
                · exact keep5 (bput3 (bput3 QQ.out leA _ _ _) leB _ _ _) HS0.out
                clear hK K
                try simp only [Act.put, List.setIfInBounds_toArray, List.set_cons_zero, List.set_cons_succ]
                refine wpAnyH_done (by kernel_rfl) ?_ _
                refine NoPanic.normal ?_
                go_wp2_with fail
                go_meet
                exact ⟨_, _, rfl, rfl, ((LA.out).put3 _ _ _).aside3 neB _ _ _, ((LB.out).aside3 neA _ _ _).put3 _ _ _, bput3 (bput3 QQ.out leA _ _ _) leB _ _ _⟩
              exact AllReadyH.nil
            exact AllReadyH.nil
          exact AllReadyH.nil
        refine AllReadyH.cons (at_list rfl) (fun K hK => ?_) ?_
        · go_simp
          refine hK.out _ _ ?_ (fun hHeld => ?_)
          · exact keep5 (bdrew (bnew wc (.cells #[.int .i64 0, .int .i64 0, .bool false] 24))) HS0.out
          clear hK K
          try simp only [Act.put, List.setIfInBounds_toArray, List.set_cons_zero, List.set_cons_succ]
          refine wpAnyH_ready (rs := [3, 9]) (by kernel_rfl) (by simp) ?_
          refine AllReadyH.cons (at_list rfl) (fun K hK => ?_) ?_
          · go_simp
            refine (PS0.out _).mono ?_
            rintro e w1 ⟨rfl, hb1⟩
            have Q1 := Lib.hid (bstep (bdrew (bnew wc (.cells #[.int .i64 0, .int .i64 0, .bool false] 24))) hb1)
            have KA1 := Lib.hid (((Holds.fresh wc 24 #[.int .i64 0, .int .i64 0, .bool false] (g := wc.heap.size) (by simp)).drew).keptB hb1)
            go_wp2_with fail
            refine hK.out _ _ ?_ (fun hHeld => ?_)
            · exact keep5 Q1.out HS0.out
            clear hK K
            try simp only [Act.put, List.setIfInBounds_toArray, List.set_cons_zero, List.set_cons_succ]
            refine wpAnyH_ready (rs := [7, 9]) (by kernel_rfl) (by simp) ?_
            refine AllReadyH.cons (at_list rfl) (fun K hK => ?_) ?_
            · go_simp
              refine (PS1.out _).mono ?_
              rintro e w2 ⟨rfl, hb2⟩
              have Q2 := Lib.hid (bstep (Q1.out) hb2)
              have KA2 := Lib.hid ((KA1.out).keptB hb2)
              go_wp2_with fail
              refine hK.out _ _ ?_ (fun hHeld => ?_)
              · exact keep5 Q2.out HS0.out
              clear hK K
              try simp only [Act.put, List.setIfInBounds_toArray, List.set_cons_zero, List.set_cons_succ]
              refine wpAnyH_ready (rs := [9]) (by kernel_rfl) (by simp) ?_
              refine AllReadyH.cons (at_list rfl) (fun K hK => ?_) ?_
              · go_simp
                refine hK.out _ _ ?_ (fun hHeld => ?_)
                · exact keep5 (bstep (Q2.out) (bnew _ (.cells #[.int .i64 0, .int .i64 0, .bool false] 24))) HS0.out
                clear hK K
                try simp only [Act.put, List.setIfInBounds_toArray, List.set_cons_zero, List.set_cons_succ]
                have LA := Lib.hid ((KA2.out).laid (.cells #[.int .i64 0, .int .i64 0, .bool false] 24))
                have LB := Lib.hid (Holds.fresh w2 24 #[.int .i64 0, .int .i64 0, .bool false] (g := w2.heap.size) (by simp))
                have QQ := Lib.hid (bstep (Q2.out) (bnew _ (.cells #[.int .i64 0, .int .i64 0, .bool false] 24)))
                have sz1 := (Q1.out).size
                have sz2 := (Q2.out).size
                have sz3 := hb2.size
                try simp at sz3
                have leA : wc.heap.size ≤ wc.heap.size := by omega
                have leB : wc.heap.size ≤ w2.heap.size := by omega
                have neA : ¬ (wc.heap.size = w2.heap.size) := by first | omega | (have := hb1.size; simp at this; omega)
                have neB : ¬ (w2.heap.size = wc.heap.size) := fun h => neA h.symm
                clear sz1 sz2 sz3
                generalize (w2.alloc (.cells #[.int .i64 0, .int .i64 0, .bool false] 24)) = V at *
                have la0 := (LA.out).reads (i := 0) rfl; have la1 := (LA.out).reads (i := 1) rfl; have la2 := (LA.out).reads (i := 2) rfl
                have lb0 := (LB.out).reads (i := 0) rfl; have lb1 := (LB.out).reads (i := 1) rfl; have lb2 := (LB.out).reads (i := 2) rfl
                have la3 := (LA.out).open_ 0; have la4 := (LA.out).open_ 1; have la5 := (LA.out).open_ 2
                have lb3 := (LB.out).open_ 0; have lb4 := (LB.out).open_ 1; have lb5 := (LB.out).open_ 2
                refine wpAnyH_ready (rs := [10]) (by kernel_rfl) (by simp) ?_
                refine AllReadyH.cons (at_list rfl) (fun K hK => ?_) AllReadyH.nil
                go_simp
                refine hK.out _ _ ?_ (fun hHeld => ?_)
                · exact keep5 (bput3 QQ.out leA _ _ _) HS0.out
                clear hK K
                try simp only [Act.put, List.setIfInBounds_toArray, List.set_cons_zero, List.set_cons_succ]
                refine wpAnyH_ready (rs := [11]) (by kernel_rfl) (by simp) ?_
                refine AllReadyH.cons (at_list rfl) (fun K hK => ?_) AllReadyH.nil
                go_simp
                refine hK.out _ _ ?_ (fun hHeld => ?_)
                · exact keep5 (bput3 (bput3 QQ.out leA _ _ _) leB _ _ _) HS0.out
                clear hK K
                try simp only [Act.put, List.setIfInBounds_toArray, List.set_cons_zero, List.set_cons_succ]
                refine wpAnyH_done (by kernel_rfl) ?_ _
                refine NoPanic.normal ?_
                go_wp2_with fail
                go_meet
                exact ⟨_, _, rfl, rfl, ((LA.out).put3 _ _ _).aside3 neB _ _ _, ((LB.out).aside3 neA _ _ _).put3 _ _ _, bput3 (bput3 QQ.out leA _ _ _) leB _ _ _⟩
              exact AllReadyH.nil
            refine AllReadyH.cons (at_list rfl) (fun K hK => ?_) ?_
            · go_simp
              refine hK.out _ _ ?_ (fun hHeld => ?_)
              · exact keep5 (bstep (Q1.out) (bnew _ (.cells #[.int .i64 0, .int .i64 0, .bool false] 24))) HS0.out
              clear hK K
              try simp only [Act.put, List.setIfInBounds_toArray, List.set_cons_zero, List.set_cons_succ]
              refine wpAnyH_ready (rs := [7]) (by kernel_rfl) (by simp) ?_
              refine AllReadyH.cons (at_list rfl) (fun K hK => ?_) ?_
              · go_simp
                refine (PS1.out _).mono ?_
                rintro e w2 ⟨rfl, hb2⟩
                have Q2 := Lib.hid (bstep (bstep (Q1.out) (bnew _ (.cells #[.int .i64 0, .int .i64 0, .bool false] 24))) hb2)
                have KA2 := Lib.hid (((KA1.out).laid (.cells #[.int .i64 0, .int .i64 0, .bool false] 24)).keptB hb2)
                have KB2 := Lib.hid ((Holds.fresh w1 24 #[.int .i64 0, .int .i64 0, .bool false] (g := w1.heap.size) (by simp)).keptB hb2)
                go_wp2_with fail
                refine hK.out _ _ ?_ (fun hHeld => ?_)
                · exact keep5 Q2.out HS0.out
                clear hK K
                try simp only [Act.put, List.setIfInBounds_toArray, List.set_cons_zero, List.set_cons_succ]
                have LA := Lib.hid (KA2.out)
                have LB := Lib.hid (KB2.out)
                have QQ := Lib.hid (Q2.out)
                have sz1 := (Q1.out).size
                have sz2 := (Q2.out).size
                have sz3 := hb2.size
                try simp at sz3
                have leA : wc.heap.size ≤ wc.heap.size := by omega
                have leB : wc.heap.size ≤ w1.heap.size := by omega
                have neA : ¬ (wc.heap.size = w1.heap.size) := by first | omega | (have := hb1.size; simp at this; omega)
                have neB : ¬ (w1.heap.size = wc.heap.size) := fun h => neA h.symm
                clear sz1 sz2 sz3
                have la0 := (LA.out).reads (i := 0) rfl; have la1 := (LA.out).reads (i := 1) rfl; have la2 := (LA.out).reads (i := 2) rfl
                have lb0 := (LB.out).reads (i := 0) rfl; have lb1 := (LB.out).reads (i := 1) rfl; have lb2 := (LB.out).reads (i := 2) rfl
                have la3 := (LA.out).open_ 0; have la4 := (LA.out).open_ 1; have la5 := (LA.out).open_ 2
                have lb3 := (LB.out).open_ 0; have lb4 := (LB.out).open_ 1; have lb5 := (LB.out).open_ 2
                refine wpAnyH_ready (rs := [10]) (by kernel_rfl) (by simp) ?_
                refine AllReadyH.cons (at_list rfl) (fun K hK => ?_) AllReadyH.nil
                go_simp
                refine hK.out _ _ ?_ (fun hHeld => ?_)
                · exact keep5 (bput3 QQ.out leA _ _ _) HS0.out
                clear hK K
                try simp only [Act.put, List.setIfInBounds_toArray, List.set_cons_zero, List.set_cons_succ]
                refine wpAnyH_ready (rs := [11]) (by kernel_rfl) (by simp) ?_
                refine AllReadyH.cons (at_list rfl) (fun K hK => ?_) AllReadyH.nil
                go_simp
                refine hK.out _ _ ?_ (fun hHeld => ?_)
                · exact keep5 (bput3 (bput3 QQ.out leA _ _ _) leB _ _ _) HS0.out
                clear hK K
                try simp only [Act.put, List.setIfInBounds_toArray, List.set_cons_zero, List.set_cons_succ]
                refine wpAnyH_done (by kernel_rfl) ?_ _
                refine NoPanic.normal ?_
                go_wp2_with fail
                go_meet
                exact ⟨_, _, rfl, rfl, ((LA.out).put3 _ _ _).aside3 neB _ _ _, ((LB.out).aside3 neA _ _ _).put3 _ _ _, bput3 (bput3 QQ.out leA _ _ _) leB _ _ _⟩
              exact AllReadyH.nil
            exact AllReadyH.nil
          refine AllReadyH.cons (at_list rfl) (fun K hK => ?_) ?_
          · go_simp
            refine hK.out _ _ ?_ (fun hHeld => ?_)
            · exact keep5 (bdrew (bstep (bnew wc (.cells #[.int .i64 0, .int .i64 0, .bool false] 24)) (bnew _ (.cells #[.int .i64 0, .int .i64 0, .bool false] 24)))) HS0.out
            clear hK K
            try simp only [Act.put, List.setIfInBounds_toArray, List.set_cons_zero, List.set_cons_succ]
            refine wpAnyH_ready (rs := [3]) (by kernel_rfl) (by simp) ?_
            refine AllReadyH.cons (at_list rfl) (fun K hK => ?_) ?_
            · go_simp
              refine (PS0.out _).mono ?_
              rintro e w1 ⟨rfl, hb1⟩
              have Q1 := Lib.hid (bstep (bdrew (bstep (bnew wc (.cells #[.int .i64 0, .int .i64 0, .bool false] 24)) (bnew _ (.cells #[.int .i64 0, .int .i64 0, .bool false] 24)))) hb1)
              have KA1 := Lib.hid (((((Holds.fresh wc 24 #[.int .i64 0, .int .i64 0, .bool false] (g := wc.heap.size) (by simp))).laid (.cells #[.int .i64 0, .int .i64 0, .bool false] 24)).drew).keptB hb1)
              have KB1 := Lib.hid (((Holds.fresh (wc.alloc (.cells #[.int .i64 0, .int .i64 0, .bool false] 24)) 24 #[.int .i64 0, .int .i64 0, .bool false] (g := wc.heap.size + 1) (by simp)).drew).keptB hb1)
              go_wp2_with fail
              refine hK.out _ _ ?_ (fun hHeld => ?_)
              · exact keep5 Q1.out HS0.out
              clear hK K
              try simp only [Act.put, List.setIfInBounds_toArray, List.set_cons_zero, List.set_cons_succ]
              refine wpAnyH_ready (rs := [7]) (by kernel_rfl) (by simp) ?_
              refine AllReadyH.cons (at_list rfl) (fun K hK => ?_) ?_
              · go_simp
                refine (PS1.out _).mono ?_
                rintro e w2 ⟨rfl, hb2⟩
                have Q2 := Lib.hid (bstep (Q1.out) hb2)
                have KA2 := Lib.hid ((KA1.out).keptB hb2)
                have KB2 := Lib.hid ((KB1.out).keptB hb2)
                go_wp2_with fail
                refine hK.out _ _ ?_ (fun hHeld => ?_)
                · exact keep5 Q2.out HS0.out
                clear hK K
                try simp only [Act.put, List.setIfInBounds_toArray, List.set_cons_zero, List.set_cons_succ]
                have LA := Lib.hid (KA2.out)
                have LB := Lib.hid (KB2.out)
                have QQ := Lib.hid (Q2.out)
                have sz1 := (Q1.out).size
                have sz2 := (Q2.out).size
                have sz3 := hb2.size
                try simp at sz3
                have leA : wc.heap.size ≤ wc.heap.size := by omega
                have leB : wc.heap.size ≤ wc.heap.size + 1 := by omega
                have neA : ¬ (wc.heap.size = wc.heap.size + 1) := by first | omega | (have := hb1.size; simp at this; omega)
                have neB : ¬ (wc.heap.size + 1 = wc.heap.size) := fun h => neA h.symm
                clear sz1 sz2 sz3
                have la0 := (LA.out).reads (i := 0) rfl; have la1 := (LA.out).reads (i := 1) rfl; have la2 := (LA.out).reads (i := 2) rfl
                have lb0 := (LB.out).reads (i := 0) rfl; have lb1 := (LB.out).reads (i := 1) rfl; have lb2 := (LB.out).reads (i := 2) rfl
                have la3 := (LA.out).open_ 0; have la4 := (LA.out).open_ 1; have la5 := (LA.out).open_ 2
                have lb3 := (LB.out).open_ 0; have lb4 := (LB.out).open_ 1; have lb5 := (LB.out).open_ 2
                refine wpAnyH_ready (rs := [10]) (by kernel_rfl) (by simp) ?_
                refine AllReadyH.cons (at_list rfl) (fun K hK => ?_) AllReadyH.nil
                go_simp
                refine hK.out _ _ ?_ (fun hHeld => ?_)
                · exact keep5 (bput3 QQ.out leA _ _ _) HS0.out
                clear hK K
                try simp only [Act.put, List.setIfInBounds_toArray, List.set_cons_zero, List.set_cons_succ]
                refine wpAnyH_ready (rs := [11]) (by kernel_rfl) (by simp) ?_
                refine AllReadyH.cons (at_list rfl) (fun K hK => ?_) AllReadyH.nil
                go_simp
                refine hK.out _ _ ?_ (fun hHeld => ?_)
                · exact keep5 (bput3 (bput3 QQ.out leA _ _ _) leB _ _ _) HS0.out
                clear hK K
                try simp only [Act.put, List.setIfInBounds_toArray, List.set_cons_zero, List.set_cons_succ]
                refine wpAnyH_done (by kernel_rfl) ?_ _
                refine NoPanic.normal ?_
                go_wp2_with fail
                go_meet
                exact ⟨_, _, rfl, rfl, ((LA.out).put3 _ _ _).aside3 neB _ _ _, ((LB.out).aside3 neA _ _ _).put3 _ _ _, bput3 (bput3 QQ.out leA _ _ _) leB _ _ _⟩
              exact AllReadyH.nil
            exact AllReadyH.nil
          exact AllReadyH.nil
        refine AllReadyH.cons (at_list rfl) (fun K hK => ?_) ?_
        · go_simp
          refine hK.out _ _ ?_ (fun hHeld => ?_)
          · exact keep5 (bdrew (bnew wc (.cells #[.int .i64 0, .int .i64 0, .bool false] 24))) HS0.out
          clear hK K
          try simp only [Act.put, List.setIfInBounds_toArray, List.set_cons_zero, List.set_cons_succ]
          refine wpAnyH_ready (rs := [3, 8]) (by kernel_rfl) (by simp) ?_
          refine AllReadyH.cons (at_list rfl) (fun K hK => ?_) ?_
          · go_simp
            refine (PS0.out _).mono ?_
            rintro e w1 ⟨rfl, hb1⟩
            have Q1 := Lib.hid (bstep (bdrew (bnew wc (.cells #[.int .i64 0, .int .i64 0, .bool false] 24))) hb1)
            have KB1 := Lib.hid (((Holds.fresh wc 24 #[.int .i64 0, .int .i64 0, .bool false] (g := wc.heap.size) (by simp)).drew).keptB hb1)
            go_wp2_with fail
            refine hK.out _ _ ?_ (fun hHeld => ?_)
            · exact keep5 Q1.out HS0.out
            clear hK K
            try simp only [Act.put, List.setIfInBounds_toArray, List.set_cons_zero, List.set_cons_succ]
            refine wpAnyH_ready (rs := [7, 8]) (by kernel_rfl) (by simp) ?_
            refine AllReadyH.cons (at_list rfl) (fun K hK => ?_) ?_
            · go_simp
              refine (PS1.out _).mono ?_
              rintro e w2 ⟨rfl, hb2⟩
              have Q2 := Lib.hid (bstep (Q1.out) hb2)
              have KB2 := Lib.hid ((KB1.out).keptB hb2)
              go_wp2_with fail
              refine hK.out _ _ ?_ (fun hHeld => ?_)
              · exact keep5 Q2.out HS0.out
              clear hK K
              try simp only [Act.put, List.setIfInBounds_toArray, List.set_cons_zero, List.set_cons_succ]
              refine wpAnyH_ready (rs := [8]) (by kernel_rfl) (by simp) ?_
              refine AllReadyH.cons (at_list rfl) (fun K hK => ?_) ?_
              · go_simp
                refine hK.out _ _ ?_ (fun hHeld => ?_)
                · exact keep5 (bstep (Q2.out) (bnew _ (.cells #[.int .i64 0, .int .i64 0, .bool false] 24))) HS0.out
                clear hK K
                try simp only [Act.put, List.setIfInBounds_toArray, List.set_cons_zero, List.set_cons_succ]
                have LA := Lib.hid (Holds.fresh w2 24 #[.int .i64 0, .int .i64 0, .bool false] (g := w2.heap.size) (by simp))
                have LB := Lib.hid ((KB2.out).laid (.cells #[.int .i64 0, .int .i64 0, .bool false] 24))
                have QQ := Lib.hid (bstep (Q2.out) (bnew _ (.cells #[.int .i64 0, .int .i64 0, .bool false] 24)))
                have sz1 := (Q1.out).size
                have sz2 := (Q2.out).size
                have sz3 := hb2.size
                try simp at sz3
                have leA : wc.heap.size ≤ w2.heap.size := by omega
                have leB : wc.heap.size ≤ wc.heap.size := by omega
                have neA : ¬ (w2.heap.size = wc.heap.size) := by first | omega | (have := hb1.size; simp at this; omega)
                have neB : ¬ (wc.heap.size = w2.heap.size) := fun h => neA h.symm
                clear sz1 sz2 sz3
                generalize (w2.alloc (.cells #[.int .i64 0, .int .i64 0, .bool false] 24)) = V at *
                have la0 := (LA.out).reads (i := 0) rfl; have la1 := (LA.out).reads (i := 1) rfl; have la2 := (LA.out).reads (i := 2) rfl
                have lb0 := (LB.out).reads (i := 0) rfl; have lb1 := (LB.out).reads (i := 1) rfl; have lb2 := (LB.out).reads (i := 2) rfl
                have la3 := (LA.out).open_ 0; have la4 := (LA.out).open_ 1; have la5 := (LA.out).open_ 2
                have lb3 := (LB.out).open_ 0; have lb4 := (LB.out).open_ 1; have lb5 := (LB.out).open_ 2
                refine wpAnyH_ready (rs := [10]) (by kernel_rfl) (by simp) ?_
                refine AllReadyH.cons (at_list rfl) (fun K hK => ?_) AllReadyH.nil
                go_simp
                refine hK.out _ _ ?_ (fun hHeld => ?_)
                · exact keep5 (bput3 QQ.out leA _ _ _) HS0.out
                clear hK K
                try simp only [Act.put, List.setIfInBounds_toArray, List.set_cons_zero, List.set_cons_succ]
                refine wpAnyH_ready (rs := [11]) (by kernel_rfl) (by simp) ?_
                refine AllReadyH.cons (at_list rfl) (fun K hK => ?_) AllReadyH.nil
                go_simp
                refine hK.out _ _ ?_ (fun hHeld => ?_)
                · exact keep5 (bput3 (bput3 QQ.out leA _ _ _) leB _ _ _) HS0.out
                clear hK K
                try simp only [Act.put, List.setIfInBounds_toArray, List.set_cons_zero, List.set_cons_succ]
                refine wpAnyH_done (by kernel_rfl) ?_ _
                refine NoPanic.normal ?_
                go_wp2_with fail
                go_meet
                exact ⟨_, _, rfl, rfl, ((LA.out).put3 _ _ _).aside3 neB _ _ _, ((LB.out).aside3 neA _ _ _).put3 _ _ _, bput3 (bput3 QQ.out leA _ _ _) leB _ _ _⟩
              exact AllReadyH.nil
            refine AllReadyH.cons (at_list rfl) (fun K hK => ?_) ?_
            · go_simp
              refine hK.out _ _ ?_ (fun hHeld => ?_)
              · exact keep5 (bstep (Q1.out) (bnew _ (.cells #[.int .i64 0, .int .i64 0, .bool false] 24))) HS0.out
              clear hK K
              try simp only [Act.put, List.setIfInBounds_toArray, List.set_cons_zero, List.set_cons_succ]
              refine wpAnyH_ready (rs := [7]) (by kernel_rfl) (by simp) ?_
              refine AllReadyH.cons (at_list rfl) (fun K hK => ?_) ?_
              · go_simp
                refine (PS1.out _).mono ?_
                rintro e w2 ⟨rfl, hb2⟩
                have Q2 := Lib.hid (bstep (bstep (Q1.out) (bnew _ (.cells #[.int .i64 0, .int .i64 0, .bool false] 24))) hb2)
                have KB2 := Lib.hid (((KB1.out).laid (.cells #[.int .i64 0, .int .i64 0, .bool false] 24)).keptB hb2)
                have KA2 := Lib.hid ((Holds.fresh w1 24 #[.int .i64 0, .int .i64 0, .bool false] (g := w1.heap.size) (by simp)).keptB hb2)
                go_wp2_with fail
                refine hK.out _ _ ?_ (fun hHeld => ?_)
                · exact keep5 Q2.out HS0.out
                clear hK K
                try simp only [Act.put, List.setIfInBounds_toArray, List.set_cons_zero, List.set_cons_succ]
                have LA := Lib.hid (KA2.out)
                have LB := Lib.hid (KB2.out)
                have QQ := Lib.hid (Q2.out)
                have sz1 := (Q1.out).size
                have sz2 := (Q2.out).size
                have sz3 := hb2.size
                try simp at sz3
                have leA : wc.heap.size ≤ w1.heap.size := by omega
                have leB : wc.heap.size ≤ wc.heap.size := by omega
                have neA : ¬ (w1.heap.size = wc.heap.size) := by first | omega | (have := hb1.size; simp at this; omega)
                have neB : ¬ (wc.heap.size = w1.heap.size) := fun h => neA h.symm
                clear sz1 sz2 sz3
                have la0 := (LA.out).reads (i := 0) rfl; have la1 := (LA.out).reads (i := 1) rfl; have la2 := (LA.out).reads (i := 2) rfl
                have lb0 := (LB.out).reads (i := 0) rfl; have lb1 := (LB.out).reads (i := 1) rfl; have lb2 := (LB.out).reads (i := 2) rfl
                have la3 := (LA.out).open_ 0; have la4 := (LA.out).open_ 1; have la5 := (LA.out).open_ 2
                have lb3 := (LB.out).open_ 0; have lb4 := (LB.out).open_ 1; have lb5 := (LB.out).open_ 2
                refine wpAnyH_ready (rs := [10]) (by kernel_rfl) (by simp) ?_
                refine AllReadyH.cons (at_list rfl) (fun K hK => ?_) AllReadyH.nil
                go_simp
                refine hK.out _ _ ?_ (fun hHeld => ?_)
                · exact keep5 (bput3 QQ.out leA _ _ _) HS0.out
                clear hK K
                try simp only [Act.put, List.setIfInBounds_toArray, List.set_cons_zero, List.set_cons_succ]
                refine wpAnyH_ready (rs := [11]) (by kernel_rfl) (by simp) ?_
                refine AllReadyH.cons (at_list rfl) (fun K hK => ?_) AllReadyH.nil
                go_simp
                refine hK.out _ _ ?_ (fun hHeld => ?_)
                · exact keep5 (bput3 (bput3 QQ.out leA _ _ _) leB _ _ _) HS0.out
                clear hK K
                try simp only [Act.put, List.setIfInBounds_toArray, List.set_cons_zero, List.set_cons_succ]
                refine wpAnyH_done (by kernel_rfl) ?_ _
                refine NoPanic.normal ?_
                go_wp2_with fail
                go_meet
                exact ⟨_, _, rfl, rfl, ((LA.out).put3 _ _ _).aside3 neB _ _ _, ((LB.out).aside3 neA _ _ _).put3 _ _ _, bput3 (bput3 QQ.out leA _ _ _) leB _ _ _⟩
              exact AllReadyH.nil
            exact AllReadyH.nil
          refine AllReadyH.cons (at_list rfl) (fun K hK => ?_) ?_
          · go_simp
            refine hK.out _ _ ?_ (fun hHeld => ?_)
            · exact keep5 (bdrew (bstep (bnew wc (.cells #[.int .i64 0, .int .i64 0, .bool false] 24)) (bnew _ (.cells #[.int .i64 0, .int .i64 0, .bool false] 24)))) HS0.out
            clear hK K
            try simp only [Act.put, List.setIfInBounds_toArray, List.set_cons_zero, List.set_cons_succ]
            refine wpAnyH_ready (rs := [3]) (by kernel_rfl) (by simp) ?_
            refine AllReadyH.cons (at_list rfl) (fun K hK => ?_) ?_
            · go_simp
              refine (PS0.out _).mono ?_
              rintro e w1 ⟨rfl, hb1⟩
              have Q1 := Lib.hid (bstep (bdrew (bstep (bnew wc (.cells #[.int .i64 0, .int .i64 0, .bool false] 24)) (bnew _ (.cells #[.int .i64 0, .int .i64 0, .bool false] 24)))) hb1)
              have KB1 := Lib.hid (((((Holds.fresh wc 24 #[.int .i64 0, .int .i64 0, .bool false] (g := wc.heap.size) (by simp))).laid (.cells #[.int .i64 0, .int .i64 0, .bool false] 24)).drew).keptB hb1)
              have KA1 := Lib.hid (((Holds.fresh (wc.alloc (.cells #[.int .i64 0, .int .i64 0, .bool false] 24)) 24 #[.int .i64 0, .int .i64 0, .bool false] (g := wc.heap.size + 1) (by simp)).drew).keptB hb1)
              go_wp2_with fail
              refine hK.out _ _ ?_ (fun hHeld => ?_)
              · exact keep5 Q1.out HS0.out
              clear hK K
              try simp only [Act.put, List.setIfInBounds_toArray, List.set_cons_zero, List.set_cons_succ]
              refine wpAnyH_ready (rs := [7]) (by kernel_rfl) (by simp) ?_
              refine AllReadyH.cons (at_list rfl) (fun K hK => ?_) ?_
              · go_simp
                refine (PS1.out _).mono ?_
                rintro e w2 ⟨rfl, hb2⟩
                have Q2 := Lib.hid (bstep (Q1.out) hb2)
                have KB2 := Lib.hid ((KB1.out).keptB hb2)
                have KA2 := Lib.hid ((KA1.out).keptB hb2)
                go_wp2_with fail
                refine hK.out _ _ ?_ (fun hHeld => ?_)
                · exact keep5 Q2.out HS0.out
                clear hK K
                try simp only [Act.put, List.setIfInBounds_toArray, List.set_cons_zero, List.set_cons_succ]
                have LA := Lib.hid (KA2.out)
                have LB := Lib.hid (KB2.out)
                have QQ := Lib.hid (Q2.out)
                have sz1 := (Q1.out).size
                have sz2 := (Q2.out).size
                have sz3 := hb2.size
                try simp at sz3
                have leA : wc.heap.size ≤ wc.heap.size + 1 := by omega
                have leB : wc.heap.size ≤ wc.heap.size := by omega
                have neA : ¬ (wc.heap.size + 1 = wc.heap.size) := by first | omega | (have := hb1.size; simp at this; omega)
                have neB : ¬ (wc.heap.size = wc.heap.size + 1) := fun h => neA h.symm
                clear sz1 sz2 sz3
                have la0 := (LA.out).reads (i := 0) rfl; have la1 := (LA.out).reads (i := 1) rfl; have la2 := (LA.out).reads (i := 2) rfl
                have lb0 := (LB.out).reads (i := 0) rfl; have lb1 := (LB.out).reads (i := 1) rfl; have lb2 := (LB.out).reads (i := 2) rfl
                have la3 := (LA.out).open_ 0; have la4 := (LA.out).open_ 1; have la5 := (LA.out).open_ 2
                have lb3 := (LB.out).open_ 0; have lb4 := (LB.out).open_ 1; have lb5 := (LB.out).open_ 2
                refine wpAnyH_ready (rs := [10]) (by kernel_rfl) (by simp) ?_
                refine AllReadyH.cons (at_list rfl) (fun K hK => ?_) AllReadyH.nil
                go_simp
                refine hK.out _ _ ?_ (fun hHeld => ?_)
                · exact keep5 (bput3 QQ.out leA _ _ _) HS0.out
                clear hK K
                try simp only [Act.put, List.setIfInBounds_toArray, List.set_cons_zero, List.set_cons_succ]
                refine wpAnyH_ready (rs := [11]) (by kernel_rfl) (by simp) ?_
                refine AllReadyH.cons (at_list rfl) (fun K hK => ?_) AllReadyH.nil
                go_simp
                refine hK.out _ _ ?_ (fun hHeld => ?_)
                · exact keep5 (bput3 (bput3 QQ.out leA _ _ _) leB _ _ _) HS0.out
                clear hK K
                try simp only [Act.put, List.setIfInBounds_toArray, List.set_cons_zero, List.set_cons_succ]
                refine wpAnyH_done (by kernel_rfl) ?_ _
                refine NoPanic.normal ?_
                go_wp2_with fail
                go_meet
                exact ⟨_, _, rfl, rfl, ((LA.out).put3 _ _ _).aside3 neB _ _ _, ((LB.out).aside3 neA _ _ _).put3 _ _ _, bput3 (bput3 QQ.out leA _ _ _) leB _ _ _⟩
              exact AllReadyH.nil
            exact AllReadyH.nil
          exact AllReadyH.nil
        exact AllReadyH.nil
      case rest =>
        obtain ⟨g10, g11, rfl, rfl, kA, kB, hb⟩ := hcut
        have K10 := Lib.hid kA
        have K11 := Lib.hid kB
        replace K5 := Lib.hid ((K5.out).keptB hb)
        replace K7 := Lib.hid ((K7.out).keptB hb)
        replace K8 := Lib.hid ((K8.out).keptB hb)
        replace K9 := Lib.hid ((K9.out).keptB hb)
        replace HB := Lib.hid (bstep HB.out hb)
        clear kA kB hb HS0
        clear x7_0 x7_1 x7_2 x8_0 x8_1
        have x9_0 := (K7.out).reads (i := 0) rfl
        have x9_1 := (K7.out).reads (i := 1) rfl
        have x9_2 := (K7.out).reads (i := 2) rfl
        have x10_0 := (K8.out).reads (i := 0) rfl
        have x10_1 := (K8.out).reads (i := 1) rfl
        have x10_2 := (K8.out).reads (i := 2) rfl
        go_wp2_with fail
        refine (PW1.out _).mono ?_
        rintro e w11 ⟨rfl, hw11⟩
        clear x9_0 x9_1 x9_2 x10_0 x10_1 x10_2
        replace K5 := Lib.hid ((K5.out).keptB hw11)
        replace K7 := Lib.hid ((K7.out).keptB hw11)
        replace K8 := Lib.hid ((K8.out).keptB hw11)
        replace K9 := Lib.hid ((K9.out).keptB hw11)
        replace K10 := Lib.hid ((K10.out).keptB hw11)
        replace K11 := Lib.hid ((K11.out).keptB hw11)
        replace HB := Lib.hid (bstep HB.out hw11)
        clear hw11
        have x12_0 := (K7.out).reads (i := 0) rfl
        have x12_1 := (K7.out).reads (i := 1) rfl
        have x12_2 := (K7.out).reads (i := 2) rfl
        have x13_0 := (K10.out).reads (i := 0) rfl
        have x13_1 := (K10.out).reads (i := 1) rfl
        have x13_2 := (K10.out).reads (i := 2) rfl
        go_wp2_with fail
        refine (PW2.out _).mono ?_
        rintro e w14 ⟨rfl, hw14⟩
        clear x12_0 x12_1 x12_2 x13_0 x13_1 x13_2
        replace K5 := Lib.hid ((K5.out).keptB hw14)
        replace K7 := Lib.hid ((K7.out).keptB hw14)
        replace K8 := Lib.hid ((K8.out).keptB hw14)
        replace K9 := Lib.hid ((K9.out).keptB hw14)
        replace K10 := Lib.hid ((K10.out).keptB hw14)
        replace K11 := Lib.hid ((K11.out).keptB hw14)
        replace HB := Lib.hid (bstep HB.out hw14)
        clear hw14
        by_cases h1 : q1 < q0
        · have x15_0 := (K5.out).reads (i := 0) rfl
          have x15_1 := (K5.out).reads (i := 1) rfl
          go_wp2_with fail
          refine (alive3_any _).mono ?_
          rintro e w16 ⟨rfl, hw16⟩
          clear x15_0 x15_1
          replace K5 := Lib.hid ((K5.out).keptB hw16)
          replace K7 := Lib.hid ((K7.out).keptB hw16)
          replace K8 := Lib.hid ((K8.out).keptB hw16)
          replace K9 := Lib.hid ((K9.out).keptB hw16)
          replace K10 := Lib.hid ((K10.out).keptB hw16)
          replace K11 := Lib.hid ((K11.out).keptB hw16)
          replace HB := Lib.hid (bstep HB.out hw16)
          clear hw16
          go_wp2
          go_ret
          exact ⟨rfl, HB.out⟩
        · have h1' : decide (q1 < q0) = false := by simpa using h1
          by_cases h2 : q0 < 0
          · have x15_0 := (K5.out).reads (i := 0) rfl
            have x15_1 := (K5.out).reads (i := 1) rfl
            go_wp2_with fail
            refine (alive3_any _).mono ?_
            rintro e w16 ⟨rfl, hw16⟩
            clear x15_0 x15_1
            replace K5 := Lib.hid ((K5.out).keptB hw16)
            replace K7 := Lib.hid ((K7.out).keptB hw16)
            replace K8 := Lib.hid ((K8.out).keptB hw16)
            replace K9 := Lib.hid ((K9.out).keptB hw16)
            replace K10 := Lib.hid ((K10.out).keptB hw16)
            replace K11 := Lib.hid ((K11.out).keptB hw16)
            replace HB := Lib.hid (bstep HB.out hw16)
            clear hw16
            go_wp2
            go_ret
            exact ⟨rfl, HB.out⟩
          · have h2' : decide (q0 < 0) = false := by simpa using h2
            by_cases h3 : 1000000000 < q1
            · have x15_0 := (K5.out).reads (i := 0) rfl
              have x15_1 := (K5.out).reads (i := 1) rfl
              go_wp2_with fail
              refine (alive3_any _).mono ?_
              rintro e w16 ⟨rfl, hw16⟩
              clear x15_0 x15_1
              replace K5 := Lib.hid ((K5.out).keptB hw16)
              replace K7 := Lib.hid ((K7.out).keptB hw16)
              replace K8 := Lib.hid ((K8.out).keptB hw16)
              replace K9 := Lib.hid ((K9.out).keptB hw16)
              replace K10 := Lib.hid ((K10.out).keptB hw16)
              replace K11 := Lib.hid ((K11.out).keptB hw16)
              replace HB := Lib.hid (bstep HB.out hw16)
              clear hw16
              go_wp2
              go_ret
              exact ⟨rfl, HB.out⟩
            · have h3' : decide (1000000000 < q1) = false := by simpa using h3
              have HT := Lib.hid (F1.out (by omega) (by omega) (by omega))
              rw [(HT.out).1] at PW3
              rw [(HT.out).2] at PW4
              have x15_0 := (K5.out).reads (i := 0) rfl
              have x15_1 := (K5.out).reads (i := 1) rfl
              go_wp2_with fail
              refine (alive3_any _).mono ?_
              rintro e w16 ⟨rfl, hw16⟩
              clear x15_0 x15_1
              replace K5 := Lib.hid ((K5.out).keptB hw16)
              replace K7 := Lib.hid ((K7.out).keptB hw16)
              replace K8 := Lib.hid ((K8.out).keptB hw16)
              replace K9 := Lib.hid ((K9.out).keptB hw16)
              replace K10 := Lib.hid ((K10.out).keptB hw16)
              replace K11 := Lib.hid ((K11.out).keptB hw16)
              replace HB := Lib.hid (bstep HB.out hw16)
              clear hw16
              have x17_0 := (K8.out).reads (i := 0) rfl
              have x17_1 := (K8.out).reads (i := 1) rfl
              have x17_2 := (K8.out).reads (i := 2) rfl
              have x18_0 := (K9.out).reads (i := 0) rfl
              have x18_1 := (K9.out).reads (i := 1) rfl
              have x18_2 := (K9.out).reads (i := 2) rfl
              go_wp2_with fail
              refine (PW3.out _).mono ?_
              rintro e w19 ⟨rfl, hw19⟩
              clear x17_0 x17_1 x17_2 x18_0 x18_1 x18_2
              replace K5 := Lib.hid ((K5.out).keptB hw19)
              replace K7 := Lib.hid ((K7.out).keptB hw19)
              replace K8 := Lib.hid ((K8.out).keptB hw19)
              replace K9 := Lib.hid ((K9.out).keptB hw19)
              replace K10 := Lib.hid ((K10.out).keptB hw19)
              replace K11 := Lib.hid ((K11.out).keptB hw19)
              replace HB := Lib.hid (bstep HB.out hw19)
              clear hw19
              have x20_0 := (K10.out).reads (i := 0) rfl
              have x20_1 := (K10.out).reads (i := 1) rfl
              have x20_2 := (K10.out).reads (i := 2) rfl
              have x21_0 := (K11.out).reads (i := 0) rfl
              have x21_1 := (K11.out).reads (i := 1) rfl
              have x21_2 := (K11.out).reads (i := 2) rfl
              go_wp2_with fail
              refine (PW4.out _).mono ?_
              rintro e w22 ⟨rfl, hw22⟩
              clear x20_0 x20_1 x20_2 x21_0 x21_1 x21_2
              replace K5 := Lib.hid ((K5.out).keptB hw22)
              replace K7 := Lib.hid ((K7.out).keptB hw22)
              replace K8 := Lib.hid ((K8.out).keptB hw22)
              replace K9 := Lib.hid ((K9.out).keptB hw22)
              replace K10 := Lib.hid ((K10.out).keptB hw22)
              replace K11 := Lib.hid ((K11.out).keptB hw22)
              replace HB := Lib.hid (bstep HB.out hw22)
              clear hw22
              go_wp2
              go_ret
              exact ⟨rfl, HB.out⟩

end Go.Proofs.Ytcjfiipcmaegnaa
