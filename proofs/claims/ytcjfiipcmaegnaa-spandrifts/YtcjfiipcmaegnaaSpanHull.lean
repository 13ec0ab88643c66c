/- The walk over span's Hull: its one region that draws is walked by hand: what only reads is taken first; then two calls in their order, and the row of the method values made ahead of, between or behind them. -/
import Derived.Test.YtcjfiipcmaegnaaSpanOps
namespace Go.Proofs.Ytcjfiipcmaegnaa
open Go.RowKit
set_option linter.unusedVariables false

theorem at_list {l : List Oper} {i : Nat} {o : Oper} (h : l[i]? = some o) : (l.toArray)[i]? = some o := by simpa using h

set_option maxHeartbeats 2000000 in
theorem hull3_any (s o : Sp) (w : World) :
    Calls Try.prog 19 #[.agg #[.int .i64 (s).lo, .int .i64 (s).hi, .bool (s).k], .agg #[.int .i64 (o).lo, .int .i64 (o).hi, .bool (o).k]] w fun e w' => e = .returned (.agg #[.int .i64 (hullS s o).lo, .int .i64 (hullS s o).hi, .bool (hullS s o).k]) ∧ Below w.heap.size w w' := by
  obtain ⟨X, HX⟩ : ∃ X, Hid (hullS s o = X) := ⟨_, Lib.hid rfl⟩
  obtain ⟨p, Hp⟩ : ∃ p, Hid (minI s.lo o.lo = p) := ⟨_, Lib.hid rfl⟩
  obtain ⟨q, Hq⟩ : ∃ q, Hid (maxI s.hi o.hi = q) := ⟨_, Lib.hid rfl⟩
  have CB : Hid (∀ g f1 f2 c1 c2 w, Holds w g 32 #[.func (.func 47) #[.agg #[.int .i64 (s).lo, .int .i64 (s).hi, .bool (s).k]] #[], .func (.func 47) #[.agg #[.int .i64 (o).lo, .int .i64 (o).hi, .bool (o).k]] #[]] →
      Makes w f1 c1 true p → Makes w f2 c2 true q →
      Calls Try.prog 45 #[.func (.func f1) #[] c1, .func (.func f2) #[] c2, .slice (some ⟨g, 0, none⟩) 2 2] w fun e w' => e = .returned (.agg #[.int .i64 (X).lo, .int .i64 (X).hi, .bool (X).k]) ∧ Below w.heap.size w w') := by
    rw [← HX.out, ← Hp.out, ← Hq.out]
    exact fun g f1 f2 c1 c2 w k m1 m2 => between2_any s o g _ _ _ _ f1 f2 c1 c2 w k m1 m2
  have K0 := Lib.hid (((Holds.fresh w 24 #[.int .i64 s.lo, .int .i64 s.hi, .bool s.k] rfl).laid (.cells #[.int .i64 o.lo, .int .i64 o.hi, .bool o.k] 24)).laid (.cells #[.int .i64 0, .int .i64 0, .bool false] 24))
  have K1 := Lib.hid ((Holds.fresh (w.alloc (.cells #[.int .i64 s.lo, .int .i64 s.hi, .bool s.k] 24)) 24 #[.int .i64 o.lo, .int .i64 o.hi, .bool o.k] (g := w.heap.size + 1) (by simp)).laid (.cells #[.int .i64 0, .int .i64 0, .bool false] 24))
  have KZ := Lib.hid (Holds.fresh ((w.alloc (.cells #[.int .i64 s.lo, .int .i64 s.hi, .bool s.k] 24)).alloc (.cells #[.int .i64 o.lo, .int .i64 o.hi, .bool o.k] 24)) 24 #[.int .i64 0, .int .i64 0, .bool false] (g := w.heap.size + 1 + 1) (by simp))
  have HB := Lib.hid (bstep (bstep (bnew w _) (bnew _ _)) (bnew _ _) : Below w.heap.size w (((w.alloc (.cells #[.int .i64 s.lo, .int .i64 s.hi, .bool s.k] 24)).alloc (.cells #[.int .i64 o.lo, .int .i64 o.hi, .bool o.k] 24)).alloc (.cells #[.int .i64 0, .int .i64 0, .bool false] 24)))
  go_enter Try.func19, Try.ntmps19
  go_wp2
  generalize ((w.alloc (.cells #[.int .i64 s.lo, .int .i64 s.hi, .bool s.k] 24)).alloc (.cells #[.int .i64 o.lo, .int .i64 o.hi, .bool o.k] 24)).alloc (.cells #[.int .i64 0, .int .i64 0, .bool false] 24) = W0 at *
  have le2 : w.heap.size ≤ w.heap.size + 1 + 1 := by omega
  have d00 := (K0.out).reads (i := 0) rfl; have d01 := (K0.out).reads (i := 1) rfl; have d02 := (K0.out).reads (i := 2) rfl
  have d10 := (K1.out).reads (i := 0) rfl; have d11 := (K1.out).reads (i := 1) rfl; have d12 := (K1.out).reads (i := 2) rfl
  have ne0 : ¬ (w.heap.size = w.heap.size + 1 + 1) := by omega
  have ne1 : ¬ (w.heap.size + 1 + 1 = w.heap.size) := by omega
  refine wp_region_held_drew (S := fun v => v.cell? ⟨w.heap.size, 0, none⟩ = some (.int .i64 s.lo) ∧ v.cell? ⟨w.heap.size, 1, none⟩ = some (.int .i64 s.hi) ∧ v.cell? ⟨w.heap.size, 2, none⟩ = some (.bool s.k) ∧ v.cell? ⟨w.heap.size + 1, 0, none⟩ = some (.int .i64 o.lo) ∧ v.cell? ⟨w.heap.size + 1, 1, none⟩ = some (.int .i64 o.hi) ∧ v.cell? ⟨w.heap.size + 1, 2, none⟩ = some (.bool o.k)) (by kernel_rfl) ?_ (fun hHeld => ?_)
  · exact ⟨d00, d01, d02, d10, d11, d12⟩
  refine wpAnyH_take (i := 0) (v := .pointer (some ⟨w.heap.size, 0, none⟩)) (at_list rfl) (by kernel_rfl) (by kernel_rfl) (by kernel_rfl) (fun _ _ _ h => h) (Or.inl ⟨by rfl, ?_⟩) (by assumption) ?_
  · intro v hSv
    obtain ⟨q0, q1, q2, q3, q4, q5⟩ := hSv
    go_simp
  try simp only [Act.put, List.setIfInBounds_toArray, List.set_cons_zero, List.set_cons_succ]
  refine wpAnyH_take (i := 1) (v := .int .i64 s.lo) (at_list rfl) (by kernel_rfl) (by kernel_rfl) (by kernel_rfl) (fun _ _ _ h => h) (Or.inl ⟨by rfl, ?_⟩) (by assumption) ?_
  · intro v hSv
    obtain ⟨q0, q1, q2, q3, q4, q5⟩ := hSv
    go_simp
  try simp only [Act.put, List.setIfInBounds_toArray, List.set_cons_zero, List.set_cons_succ]
  refine wpAnyH_take (i := 2) (v := .pointer (some ⟨w.heap.size + 1, 0, none⟩)) (at_list rfl) (by kernel_rfl) (by kernel_rfl) (by kernel_rfl) (fun _ _ _ h => h) (Or.inl ⟨by rfl, ?_⟩) (by assumption) ?_
  · intro v hSv
    obtain ⟨q0, q1, q2, q3, q4, q5⟩ := hSv
    go_simp
  try simp only [Act.put, List.setIfInBounds_toArray, List.set_cons_zero, List.set_cons_succ]
  refine wpAnyH_take (i := 3) (v := .int .i64 o.lo) (at_list rfl) (by kernel_rfl) (by kernel_rfl) (by kernel_rfl) (fun _ _ _ h => h) (Or.inl ⟨by rfl, ?_⟩) (by assumption) ?_
  · intro v hSv
    obtain ⟨q0, q1, q2, q3, q4, q5⟩ := hSv
    go_simp
  try simp only [Act.put, List.setIfInBounds_toArray, List.set_cons_zero, List.set_cons_succ]
  refine wpAnyH_take (i := 4) (v := .int .i64 p) (at_list rfl) (by kernel_rfl) (by kernel_rfl) (by kernel_rfl) (fun _ _ _ h => h) (Or.inl ⟨by rfl, ?_⟩) (by assumption) ?_
  · intro v hSv
    obtain ⟨q0, q1, q2, q3, q4, q5⟩ := hSv
    go_simp
    have e1 := Hp.out
    unfold minI at e1
    rw [← e1]; split <;> split <;> omega
  try simp only [Act.put, List.setIfInBounds_toArray, List.set_cons_zero, List.set_cons_succ]
  refine wpAnyH_take (i := 6) (v := .pointer (some ⟨w.heap.size, 1, none⟩)) (at_list rfl) (by kernel_rfl) (by kernel_rfl) (by kernel_rfl) (fun _ _ _ h => h) (Or.inl ⟨by rfl, ?_⟩) (by assumption) ?_
  · intro v hSv
    obtain ⟨q0, q1, q2, q3, q4, q5⟩ := hSv
    go_simp
  try simp only [Act.put, List.setIfInBounds_toArray, List.set_cons_zero, List.set_cons_succ]
  refine wpAnyH_take (i := 7) (v := .int .i64 s.hi) (at_list rfl) (by kernel_rfl) (by kernel_rfl) (by kernel_rfl) (fun _ _ _ h => h) (Or.inl ⟨by rfl, ?_⟩) (by assumption) ?_
  · intro v hSv
    obtain ⟨q0, q1, q2, q3, q4, q5⟩ := hSv
    go_simp
  try simp only [Act.put, List.setIfInBounds_toArray, List.set_cons_zero, List.set_cons_succ]
  refine wpAnyH_take (i := 8) (v := .pointer (some ⟨w.heap.size + 1, 1, none⟩)) (at_list rfl) (by kernel_rfl) (by kernel_rfl) (by kernel_rfl) (fun _ _ _ h => h) (Or.inl ⟨by rfl, ?_⟩) (by assumption) ?_
  · intro v hSv
    obtain ⟨q0, q1, q2, q3, q4, q5⟩ := hSv
    go_simp
  try simp only [Act.put, List.setIfInBounds_toArray, List.set_cons_zero, List.set_cons_succ]
  refine wpAnyH_take (i := 9) (v := .int .i64 o.hi) (at_list rfl) (by kernel_rfl) (by kernel_rfl) (by kernel_rfl) (fun _ _ _ h => h) (Or.inl ⟨by rfl, ?_⟩) (by assumption) ?_
  · intro v hSv
    obtain ⟨q0, q1, q2, q3, q4, q5⟩ := hSv
    go_simp
  try simp only [Act.put, List.setIfInBounds_toArray, List.set_cons_zero, List.set_cons_succ]
  refine wpAnyH_take (i := 10) (v := .int .i64 q) (at_list rfl) (by kernel_rfl) (by kernel_rfl) (by kernel_rfl) (fun _ _ _ h => h) (Or.inl ⟨by rfl, ?_⟩) (by assumption) ?_
  · intro v hSv
    obtain ⟨q0, q1, q2, q3, q4, q5⟩ := hSv
    go_simp
    exact Hq.out
  try simp only [Act.put, List.setIfInBounds_toArray, List.set_cons_zero, List.set_cons_succ]
  refine wpAnyH_take (i := 12) (v := .agg #[.int .i64 (s).lo, .int .i64 (s).hi, .bool (s).k]) (at_list rfl) (by kernel_rfl) (by kernel_rfl) (by kernel_rfl) (fun _ _ _ h => h) (Or.inl ⟨by rfl, ?_⟩) (by assumption) ?_
  · intro v hSv
    obtain ⟨q0, q1, q2, q3, q4, q5⟩ := hSv
    go_simp
  try simp only [Act.put, List.setIfInBounds_toArray, List.set_cons_zero, List.set_cons_succ]
  refine wpAnyH_take (i := 13) (v := .func (.func 47) #[.agg #[.int .i64 (s).lo, .int .i64 (s).hi, .bool (s).k]] #[]) (at_list rfl) (by kernel_rfl) (by kernel_rfl) (by kernel_rfl) (fun _ _ _ h => h) (Or.inl ⟨by rfl, ?_⟩) (by assumption) ?_
  · intro v hSv
    obtain ⟨q0, q1, q2, q3, q4, q5⟩ := hSv
    go_simp
  try simp only [Act.put, List.setIfInBounds_toArray, List.set_cons_zero, List.set_cons_succ]
  refine wpAnyH_take (i := 14) (v := .agg #[.int .i64 (o).lo, .int .i64 (o).hi, .bool (o).k]) (at_list rfl) (by kernel_rfl) (by kernel_rfl) (by kernel_rfl) (fun _ _ _ h => h) (Or.inl ⟨by rfl, ?_⟩) (by assumption) ?_
  · intro v hSv
    obtain ⟨q0, q1, q2, q3, q4, q5⟩ := hSv
    go_simp
  try simp only [Act.put, List.setIfInBounds_toArray, List.set_cons_zero, List.set_cons_succ]
  refine wpAnyH_take (i := 15) (v := .func (.func 47) #[.agg #[.int .i64 (o).lo, .int .i64 (o).hi, .bool (o).k]] #[]) (at_list rfl) (by kernel_rfl) (by kernel_rfl) (by kernel_rfl) (fun _ _ _ h => h) (Or.inl ⟨by rfl, ?_⟩) (by assumption) ?_
  · intro v hSv
    obtain ⟨q0, q1, q2, q3, q4, q5⟩ := hSv
    go_simp
  try simp only [Act.put, List.setIfInBounds_toArray, List.set_cons_zero, List.set_cons_succ]
  refine wpAnyH_ready (rs := [5, 16]) (by kernel_rfl) (by simp) ?_
  refine AllReadyH.cons (at_list rfl) (fun K hK => ?_) ?_
  · go_simp
    refine (exactlyb_any p _).mono ?_
    rintro e w1 ⟨f1, c1, rfl, m1, hb1⟩
    have Q1 := Lib.hid (bstep (bdrew (Below.refl _ _)) hb1)
    have M1 := Lib.hid m1
    clear m1
    go_wp2_with fail
    refine hK.out _ _ ?_ (fun hHeld => ?_)
    · exact keep6 hb1 (by assumption)
    clear hK K
    try simp only [Act.put, List.setIfInBounds_toArray, List.set_cons_zero, List.set_cons_succ]
    refine wpAnyH_ready (rs := [11, 16]) (by kernel_rfl) (by simp) ?_
    refine AllReadyH.cons (at_list rfl) (fun K hK => ?_) ?_
    · go_simp
      refine (exactlyb_any q _).mono ?_
      rintro e w2 ⟨f2, c2, rfl, m2, hb2⟩
      have Q2 := Lib.hid (bstep Q1.out hb2)
      have M2 := Lib.hid m2
      clear m2
      have N1 := Lib.hid ((M1.out).kept hb2)
      go_wp2_with fail
      refine hK.out _ _ ?_ (fun hHeld => ?_)
      · exact keep6 hb2 (by assumption)
      clear hK K
      try simp only [Act.put, List.setIfInBounds_toArray, List.set_cons_zero, List.set_cons_succ]
      refine wpAnyH_ready (rs := [16]) (by kernel_rfl) (by simp) ?_
      refine AllReadyH.cons (at_list rfl) (fun K hK => ?_) ?_
      · go_simp
        refine hK.out _ _ ?_ (fun hHeld => ?_)
        · exact keep6 (bnew _ _) (by assumption)
        clear hK K
        try simp only [Act.put, List.setIfInBounds_toArray, List.set_cons_zero, List.set_cons_succ]
        refine wpAnyH_ready (rs := [17]) (by kernel_rfl) (by simp) ?_
        refine AllReadyH.cons (at_list rfl) (fun K hK => ?_) ?_
        · go_simp
          refine (CB.out _ _ _ _ _ _ (Holds.fresh w2 _ _ rfl) ((N1.out).kept (bnew _ _)) ((M2.out).kept (bnew _ _))).mono ?_
          rintro e w3 ⟨rfl, hb3⟩
          have Q3 := Lib.hid (bstep (bstep Q2.out (bnew _ _)) hb3)
          have KZ3 := Lib.hid ((KZ.out).kept Q3.out (KZ.out).inside)
          have k0 := (KZ3.out).reads (i := 0) rfl; have k1 := (KZ3.out).reads (i := 1) rfl; have k2 := (KZ3.out).reads (i := 2) rfl
          have f0 := (KZ3.out).open_ 0; have f1 := (KZ3.out).open_ 1; have f2 := (KZ3.out).open_ 2
          go_wp2_with fail
          refine hK.out _ _ ?_ (fun hHeld => ?_)
          · exact keep6 hb3 (by assumption)
          clear hK K
          try simp only [Act.put, List.setIfInBounds_toArray, List.set_cons_zero, List.set_cons_succ]
          refine wpAnyH_ready (rs := [18]) (by kernel_rfl) (by simp) ?_
          refine AllReadyH.cons (at_list rfl) (fun K hK => ?_) ?_
          · go_simp
            refine hK.out _ _ ?_ (fun hHeld => ?_)
            · clear HB; go_keep
            clear hK K
            try simp only [Act.put, List.setIfInBounds_toArray, List.set_cons_zero, List.set_cons_succ]
            refine wpAnyH_done (by kernel_rfl) ?_ _
            go_wp2
            refine bodyPost_ret (v := .agg #[.int .i64 (X).lo, .int .i64 (X).hi, .bool (X).k]) (by simp [results, Try.results19, go_sem, k0, k1, k2]) rfl ⟨?_, ?_⟩
            · exact ret_sp HX.out.symm
            · exact ((((HB.out).trans ((Q3.out).mono (HB.out).size)).setCell le2 _).setCell le2 _).setCell le2 _
          exact AllReadyH.nil
        exact AllReadyH.nil
      exact AllReadyH.nil
    refine AllReadyH.cons (at_list rfl) (fun K hK => ?_) ?_
    · go_simp
      refine hK.out _ _ ?_ (fun hHeld => ?_)
      · exact keep6 (bnew _ _) (by assumption)
      clear hK K
      try simp only [Act.put, List.setIfInBounds_toArray, List.set_cons_zero, List.set_cons_succ]
      refine wpAnyH_ready (rs := [11]) (by kernel_rfl) (by simp) ?_
      refine AllReadyH.cons (at_list rfl) (fun K hK => ?_) ?_
      · go_simp
        refine (exactlyb_any q _).mono ?_
        rintro e w2 ⟨f2, c2, rfl, m2, hb2⟩
        have Q2 := Lib.hid (bstep (bstep Q1.out (bnew _ _)) hb2)
        have M2 := Lib.hid m2
        clear m2
        have N1 := Lib.hid ((M1.out).kept (bstep (bnew _ _) hb2))
        have KG := Lib.hid ((Holds.fresh w1 32 #[.func (.func 47) #[.agg #[.int .i64 (s).lo, .int .i64 (s).hi, .bool (s).k]] #[], .func (.func 47) #[.agg #[.int .i64 (o).lo, .int .i64 (o).hi, .bool (o).k]] #[]] rfl).kept hb2 (by simp))
        go_wp2_with fail
        refine hK.out _ _ ?_ (fun hHeld => ?_)
        · exact keep6 hb2 (by assumption)
        clear hK K
        try simp only [Act.put, List.setIfInBounds_toArray, List.set_cons_zero, List.set_cons_succ]
        refine wpAnyH_ready (rs := [17]) (by kernel_rfl) (by simp) ?_
        refine AllReadyH.cons (at_list rfl) (fun K hK => ?_) ?_
        · go_simp
          refine (CB.out _ _ _ _ _ _ KG.out N1.out M2.out).mono ?_
          rintro e w3 ⟨rfl, hb3⟩
          have Q3 := Lib.hid (bstep Q2.out hb3)
          have KZ3 := Lib.hid ((KZ.out).kept Q3.out (KZ.out).inside)
          have k0 := (KZ3.out).reads (i := 0) rfl; have k1 := (KZ3.out).reads (i := 1) rfl; have k2 := (KZ3.out).reads (i := 2) rfl
          have f0 := (KZ3.out).open_ 0; have f1 := (KZ3.out).open_ 1; have f2 := (KZ3.out).open_ 2
          go_wp2_with fail
          refine hK.out _ _ ?_ (fun hHeld => ?_)
          · exact keep6 hb3 (by assumption)
          clear hK K
          try simp only [Act.put, List.setIfInBounds_toArray, List.set_cons_zero, List.set_cons_succ]
          refine wpAnyH_ready (rs := [18]) (by kernel_rfl) (by simp) ?_
          refine AllReadyH.cons (at_list rfl) (fun K hK => ?_) ?_
          · go_simp
            refine hK.out _ _ ?_ (fun hHeld => ?_)
            · clear HB; go_keep
            clear hK K
            try simp only [Act.put, List.setIfInBounds_toArray, List.set_cons_zero, List.set_cons_succ]
            refine wpAnyH_done (by kernel_rfl) ?_ _
            go_wp2
            refine bodyPost_ret (v := .agg #[.int .i64 (X).lo, .int .i64 (X).hi, .bool (X).k]) (by simp [results, Try.results19, go_sem, k0, k1, k2]) rfl ⟨?_, ?_⟩
            · exact ret_sp HX.out.symm
            · exact ((((HB.out).trans ((Q3.out).mono (HB.out).size)).setCell le2 _).setCell le2 _).setCell le2 _
          exact AllReadyH.nil
        exact AllReadyH.nil
      exact AllReadyH.nil
    exact AllReadyH.nil
  refine AllReadyH.cons (at_list rfl) (fun K hK => ?_) ?_
  · go_simp
    refine hK.out _ _ ?_ (fun hHeld => ?_)
    · exact keep6 (bnew _ _) (by assumption)
    clear hK K
    try simp only [Act.put, List.setIfInBounds_toArray, List.set_cons_zero, List.set_cons_succ]
    refine wpAnyH_ready (rs := [5]) (by kernel_rfl) (by simp) ?_
    refine AllReadyH.cons (at_list rfl) (fun K hK => ?_) ?_
    · go_simp
      refine (exactlyb_any p _).mono ?_
      rintro e w1 ⟨f1, c1, rfl, m1, hb1⟩
      have Q1 := Lib.hid (bstep (bstep (bdrew (Below.refl _ _)) (bnew _ _)) hb1)
      have M1 := Lib.hid m1
      clear m1
      have KG := Lib.hid ((Holds.drew (Holds.fresh W0 32 #[.func (.func 47) #[.agg #[.int .i64 (s).lo, .int .i64 (s).hi, .bool (s).k]] #[], .func (.func 47) #[.agg #[.int .i64 (o).lo, .int .i64 (o).hi, .bool (o).k]] #[]] rfl)).kept hb1 (by simp))
      go_wp2_with fail
      refine hK.out _ _ ?_ (fun hHeld => ?_)
      · exact keep6 hb1 (by assumption)
      clear hK K
      try simp only [Act.put, List.setIfInBounds_toArray, List.set_cons_zero, List.set_cons_succ]
      refine wpAnyH_ready (rs := [11]) (by kernel_rfl) (by simp) ?_
      refine AllReadyH.cons (at_list rfl) (fun K hK => ?_) ?_
      · go_simp
        refine (exactlyb_any q _).mono ?_
        rintro e w2 ⟨f2, c2, rfl, m2, hb2⟩
        have Q2 := Lib.hid (bstep Q1.out hb2)
        have M2 := Lib.hid m2
        clear m2
        have N1 := Lib.hid ((M1.out).kept hb2)
        replace KG := Lib.hid ((KG.out).kept hb2 (KG.out).inside)
        go_wp2_with fail
        refine hK.out _ _ ?_ (fun hHeld => ?_)
        · exact keep6 hb2 (by assumption)
        clear hK K
        try simp only [Act.put, List.setIfInBounds_toArray, List.set_cons_zero, List.set_cons_succ]
        refine wpAnyH_ready (rs := [17]) (by kernel_rfl) (by simp) ?_
        refine AllReadyH.cons (at_list rfl) (fun K hK => ?_) ?_
        · go_simp
          refine (CB.out _ _ _ _ _ _ KG.out N1.out M2.out).mono ?_
          rintro e w3 ⟨rfl, hb3⟩
          have Q3 := Lib.hid (bstep Q2.out hb3)
          have KZ3 := Lib.hid ((KZ.out).kept Q3.out (KZ.out).inside)
          have k0 := (KZ3.out).reads (i := 0) rfl; have k1 := (KZ3.out).reads (i := 1) rfl; have k2 := (KZ3.out).reads (i := 2) rfl
          have f0 := (KZ3.out).open_ 0; have f1 := (KZ3.out).open_ 1; have f2 := (KZ3.out).open_ 2
          go_wp2_with fail
          refine hK.out _ _ ?_ (fun hHeld => ?_)
          · exact keep6 hb3 (by assumption)
          clear hK K
          try simp only [Act.put, List.setIfInBounds_toArray, List.set_cons_zero, List.set_cons_succ]
          refine wpAnyH_ready (rs := [18]) (by kernel_rfl) (by simp) ?_
          refine AllReadyH.cons (at_list rfl) (fun K hK => ?_) ?_
          · go_simp
            refine hK.out _ _ ?_ (fun hHeld => ?_)
            · clear HB; go_keep
            clear hK K
            try simp only [Act.put, List.setIfInBounds_toArray, List.set_cons_zero, List.set_cons_succ]
            refine wpAnyH_done (by kernel_rfl) ?_ _
            go_wp2
            refine bodyPost_ret (v := .agg #[.int .i64 (X).lo, .int .i64 (X).hi, .bool (X).k]) (by simp [results, Try.results19, go_sem, k0, k1, k2]) rfl ⟨?_, ?_⟩
            · exact ret_sp HX.out.symm
            · exact ((((HB.out).trans ((Q3.out).mono (HB.out).size)).setCell le2 _).setCell le2 _).setCell le2 _
          exact AllReadyH.nil
        exact AllReadyH.nil
      exact AllReadyH.nil
    exact AllReadyH.nil
  exact AllReadyH.nil

end Go.Proofs.Ytcjfiipcmaegnaa
