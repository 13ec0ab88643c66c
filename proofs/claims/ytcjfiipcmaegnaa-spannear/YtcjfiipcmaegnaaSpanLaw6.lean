/- The walk over the law SpanNear. -/
import Derived.Test.YtcjfiipcmaegnaaSpanLawWords
import Derived.Test.YtcjfiipcmaegnaaSpanLawMath2
namespace Go.Proofs.Ytcjfiipcmaegnaa
open Go.RowKit
set_option linter.unusedVariables false

/-- a variable that holds a span, and two that hold numbers -/
def Single (s : Sp) (a b : Int) (w : World) (p u v : Value) (wx : World) : Prop :=
  ∃ g, p = .pointer (some ⟨g, 0, none⟩) ∧ u = .int .i64 a ∧ v = .int .i64 b ∧ Holds wx g 24 #[.int .i64 s.lo, .int .i64 s.hi, .bool s.k] ∧ Below w.heap.size w wx

set_option maxRecDepth 100000 in
set_option maxHeartbeats 4000000 in
theorem spannear_walk (s : Sp) (m q e : Int) (hm : In64 m) (w : World) :
    Calls Try.prog 8 #[.agg #[.int .i64 (s).lo, .int .i64 (s).hi, .bool (s).k], .int .i64 m, .agg #[.int .i64 q, .int .i64 e]] w fun e w' => e = .returned (.bool true) ∧ Below w.heap.size w w' := by
  obtain ⟨R, HR⟩ : ∃ R, Hid (rgtB s = R) := ⟨_, Lib.hid rfl⟩
  have PR := Lib.hid (right3_any s)
  rw [HR.out] at PR
  obtain ⟨A, HA⟩ : ∃ A, Hid (hasS s m = A) := ⟨_, Lib.hid rfl⟩
  have PA := Lib.hid (has3_any s m)
  rw [HA.out] at PA
  obtain ⟨x, Hx⟩ : ∃ x, Hid (told (floorB m (1000000000 + e) 1000000000) (m * (1000000000 + e) / 1000000000) = x) := ⟨_, Lib.hid rfl⟩
  obtain ⟨B1, HB1⟩ : ∃ B1, Hid (floorB m (1000000000 + e) 1000000000 = B1) := ⟨_, Lib.hid rfl⟩
  have PF := Lib.hid (floor_any m (1000000000 + e) 1000000000)
  rw [Hx.out, HB1.out] at PF
  obtain ⟨y, Hy⟩ : ∃ y, Hid (told (ceilB m (1000000000 + e) 1000000000) (ceilN m (1000000000 + e) 1000000000) = y) := ⟨_, Lib.hid rfl⟩
  obtain ⟨B2, HB2⟩ : ∃ B2, Hid (ceilB m (1000000000 + e) 1000000000 = B2) := ⟨_, Lib.hid rfl⟩
  have PC := Lib.hid (fun w => ceil_any m (1000000000 + e) 1000000000 w hm)
  rw [Hy.out, HB2.out] at PC
  obtain ⟨T, HT⟩ : ∃ T, Hid (scaleS s q = T) := ⟨_, Lib.hid rfl⟩
  have PT := Lib.hid (scale3_any s q)
  rw [HT.out] at PT
  have PX := Lib.hid (has3_any T x)
  have PY := Lib.hid (has3_any T y)
  have F1 : Hid (s.k = true → R = true → A = true → -q ≤ e → e ≤ q → B1 = true → B2 = true → hasS T x = true ∧ hasS T y = true) := by
    intro h1 h2 h3 h4 h5 h6 h7
    have hb := rgt_bnd h1 (HR.out.trans h2)
    have ha := (has_iff hb).1 (HA.out.trans h3)
    rw [← HT.out, ← Hx.out, ← Hy.out, HB1.out, HB2.out, h6, h7, told_true, told_true]
    exact near_has ha.1 ha.2 h4 h5
  have OW0 := Lib.hid (own3_any s)
  clear HR HA Hx HB1 Hy HB2 HT hm
  have K0 := Lib.hid (Holds.fresh w 23 #[.int .i64 s.lo, .int .i64 s.hi, .bool s.k] (g := w.heap.size) (by simp))
  replace K0 := Lib.hid ((K0.out).laid (.cells #[.int .i64 q, .int .i64 e] 47))
  have K5 := Lib.hid (Holds.fresh (w.alloc (.cells #[.int .i64 s.lo, .int .i64 s.hi, .bool s.k] 23)) 47 #[.int .i64 q, .int .i64 e] (g := w.heap.size + 1) (by simp))
  have HB := Lib.hid (bstep (bnew w (.cells #[.int .i64 s.lo, .int .i64 s.hi, .bool s.k] 23)) (bnew _ (.cells #[.int .i64 q, .int .i64 e] 47)))
  go_enter Try.func8, Try.ntmps8
  go_upto_region 1 with fail
  generalize ((w.alloc (.cells #[.int .i64 s.lo, .int .i64 s.hi, .bool s.k] 23)).alloc (.cells #[.int .i64 q, .int .i64 e] 47)) = W0 at *
  have x1_0 := (K0.out).reads (i := 0) rfl
  have x1_1 := (K0.out).reads (i := 1) rfl
  have x1_2 := (K0.out).reads (i := 2) rfl
  have x2_0 := (K5.out).reads (i := 0) rfl
  have x2_1 := (K5.out).reads (i := 1) rfl
  have HS0 := Lib.hid (show W0.cell? ⟨w.heap.size, 0, none⟩ = some (.int .i64 s.lo) ∧ W0.cell? ⟨w.heap.size, 1, none⟩ = some (.int .i64 s.hi) ∧ W0.cell? ⟨w.heap.size, 2, none⟩ = some (.bool s.k) ∧ W0.cell? ⟨w.heap.size + 1, 0, none⟩ = some (.int .i64 q) ∧ W0.cell? ⟨w.heap.size + 1, 1, none⟩ = some (.int .i64 e) from ⟨x1_0, x1_1, x1_2, x2_0, x2_1⟩)
  go_cut [7, 8, 9] (fun p u v wx => Single s q e W0 p u v wx)
  case first =>
    refine wp_region_noPanic ?_
    refine wp_region_held_drew (S := fun v => v.cell? ⟨w.heap.size, 0, none⟩ = some (.int .i64 s.lo) ∧ v.cell? ⟨w.heap.size, 1, none⟩ = some (.int .i64 s.hi) ∧ v.cell? ⟨w.heap.size, 2, none⟩ = some (.bool s.k) ∧ v.cell? ⟨w.heap.size + 1, 0, none⟩ = some (.int .i64 q) ∧ v.cell? ⟨w.heap.size + 1, 1, none⟩ = some (.int .i64 e)) (by kernel_rfl) ?_ (fun hHeld => ?_)
    · exact HS0.out
    refine wpAnyH_take (i := 0) (v := .agg #[.int .i64 (s).lo, .int .i64 (s).hi, .bool (s).k]) (at_list rfl) (by kernel_rfl) (by kernel_rfl) (by kernel_rfl) (fun _ _ _ h => h) (Or.inl ⟨by rfl, ?_⟩) (by assumption) ?_
    · intro v hSv
      obtain ⟨p0, p1, p2, p3, p4⟩ := hSv
      go_simp
    try simp only [Act.put, List.setIfInBounds_toArray, List.set_cons_zero, List.set_cons_succ]
    refine wpAnyH_take (i := 2) (v := .pointer (some ⟨w.heap.size + 1, 0, none⟩)) (at_list rfl) (by kernel_rfl) (by kernel_rfl) (by kernel_rfl) (fun _ _ _ h => h) (Or.inl ⟨by rfl, ?_⟩) (by assumption) ?_
    · intro v hSv
      obtain ⟨p0, p1, p2, p3, p4⟩ := hSv
      go_simp
    try simp only [Act.put, List.setIfInBounds_toArray, List.set_cons_zero, List.set_cons_succ]
    refine wpAnyH_take (i := 3) (v := .int .i64 q) (at_list rfl) (by kernel_rfl) (by kernel_rfl) (by kernel_rfl) (fun _ _ _ h => h) (Or.inl ⟨by rfl, ?_⟩) (by assumption) ?_
    · intro v hSv
      obtain ⟨p0, p1, p2, p3, p4⟩ := hSv
      go_simp
    try simp only [Act.put, List.setIfInBounds_toArray, List.set_cons_zero, List.set_cons_succ]
    refine wpAnyH_take (i := 4) (v := .pointer (some ⟨w.heap.size + 1, 1, none⟩)) (at_list rfl) (by kernel_rfl) (by kernel_rfl) (by kernel_rfl) (fun _ _ _ h => h) (Or.inl ⟨by rfl, ?_⟩) (by assumption) ?_
    · intro v hSv
      obtain ⟨p0, p1, p2, p3, p4⟩ := hSv
      go_simp
    try simp only [Act.put, List.setIfInBounds_toArray, List.set_cons_zero, List.set_cons_succ]
    refine wpAnyH_take (i := 5) (v := .int .i64 e) (at_list rfl) (by kernel_rfl) (by kernel_rfl) (by kernel_rfl) (fun _ _ _ h => h) (Or.inl ⟨by rfl, ?_⟩) (by assumption) ?_
    · intro v hSv
      obtain ⟨p0, p1, p2, p3, p4⟩ := hSv
      go_simp
    try simp only [Act.put, List.setIfInBounds_toArray, List.set_cons_zero, List.set_cons_succ]
    refine wpAnyH_ready (rs := [1, 6]) (by kernel_rfl) (by simp) ?_
    refine AllReadyH.cons (at_list rfl) (fun K hK => ?_) ?_
    · go_simp
      refine (OW0.out _).mono ?_
      rintro e w1 ⟨rfl, hb1⟩
      have Q1 := Lib.hid (bstep (bdrew (Below.refl _ _)) hb1)
      go_wp2_with fail
      refine hK.out _ _ ?_ (fun hHeld => ?_)
      · exact keep5 Q1.out HS0.out
      clear hK K
      try simp only [Act.put, List.setIfInBounds_toArray, List.set_cons_zero, List.set_cons_succ]
      refine wpAnyH_ready (rs := [6]) (by kernel_rfl) (by simp) ?_
      refine AllReadyH.cons (at_list rfl) (fun K hK => ?_) AllReadyH.nil
      go_simp
      refine hK.out _ _ ?_ (fun hHeld => ?_)
      · exact keep5 (bstep Q1.out (bnew _ (.cells #[.int .i64 0, .int .i64 0, .bool false] 24))) HS0.out
      clear hK K
      try simp only [Act.put, List.setIfInBounds_toArray, List.set_cons_zero, List.set_cons_succ]
      have QQ := Lib.hid (bstep Q1.out (bnew _ (.cells #[.int .i64 0, .int .i64 0, .bool false] 24)))
      have LA := Lib.hid (Holds.fresh w1 24 #[.int .i64 0, .int .i64 0, .bool false] (g := w1.heap.size) rfl)
      have leA : W0.heap.size ≤ w1.heap.size := (Q1.out).size
      generalize (w1.alloc (.cells #[.int .i64 0, .int .i64 0, .bool false] 24)) = V at *
      have la0 := (LA.out).reads (i := 0) rfl; have la1 := (LA.out).reads (i := 1) rfl; have la2 := (LA.out).reads (i := 2) rfl
      have la3 := (LA.out).open_ 0; have la4 := (LA.out).open_ 1; have la5 := (LA.out).open_ 2
      refine wpAnyH_ready (rs := [7]) (by kernel_rfl) (by simp) ?_
      refine AllReadyH.cons (at_list rfl) (fun K hK => ?_) AllReadyH.nil
      go_simp
      refine hK.out _ _ ?_ (fun hHeld => ?_)
      · exact keep5 (bput3 QQ.out leA _ _ _) HS0.out
      clear hK K
      try simp only [Act.put, List.setIfInBounds_toArray, List.set_cons_zero, List.set_cons_succ]
      refine wpAnyH_take (i := 8) (v := .int .i64 q) (at_list rfl) (by kernel_rfl) (by kernel_rfl) (by kernel_rfl) (fun _ _ _ h => h) (Or.inl ⟨by rfl, ?_⟩) (by assumption) ?_
      · intro v hSv
        obtain ⟨p0, p1, p2, p3, p4⟩ := hSv
        go_simp
      try simp only [Act.put, List.setIfInBounds_toArray, List.set_cons_zero, List.set_cons_succ]
      refine wpAnyH_take (i := 9) (v := .int .i64 e) (at_list rfl) (by kernel_rfl) (by kernel_rfl) (by kernel_rfl) (fun _ _ _ h => h) (Or.inl ⟨by rfl, ?_⟩) (by assumption) ?_
      · intro v hSv
        obtain ⟨p0, p1, p2, p3, p4⟩ := hSv
        go_simp
      try simp only [Act.put, List.setIfInBounds_toArray, List.set_cons_zero, List.set_cons_succ]
      refine wpAnyH_done (by kernel_rfl) ?_ _
      refine NoPanic.normal ?_
      go_wp2_with fail
      go_meet
      exact ⟨_, rfl, rfl, rfl, (LA.out).put3 _ _ _, bput3 QQ.out leA _ _ _⟩
    refine AllReadyH.cons (at_list rfl) (fun K hK => ?_) ?_
    · go_simp
      refine hK.out _ _ ?_ (fun hHeld => ?_)
      · exact keep5 (bdrew (bnew W0 (.cells #[.int .i64 0, .int .i64 0, .bool false] 24))) HS0.out
      clear hK K
      try simp only [Act.put, List.setIfInBounds_toArray, List.set_cons_zero, List.set_cons_succ]
      refine wpAnyH_ready (rs := [1]) (by kernel_rfl) (by simp) ?_
      refine AllReadyH.cons (at_list rfl) (fun K hK => ?_) AllReadyH.nil
      go_simp
      refine (OW0.out _).mono ?_
      rintro e w1 ⟨rfl, hb1⟩
      have Q1 := Lib.hid (bstep (bdrew (bnew W0 (.cells #[.int .i64 0, .int .i64 0, .bool false] 24))) hb1)
      have LA := Lib.hid ((Holds.fresh W0 24 #[.int .i64 0, .int .i64 0, .bool false] rfl).drew.keptB hb1)
      go_wp2_with fail
      refine hK.out _ _ ?_ (fun hHeld => ?_)
      · exact keep5 Q1.out HS0.out
      clear hK K
      try simp only [Act.put, List.setIfInBounds_toArray, List.set_cons_zero, List.set_cons_succ]
      have QQ := Q1
      have leA : W0.heap.size ≤ W0.heap.size := Nat.le_refl _
      have la0 := (LA.out).reads (i := 0) rfl; have la1 := (LA.out).reads (i := 1) rfl; have la2 := (LA.out).reads (i := 2) rfl
      have la3 := (LA.out).open_ 0; have la4 := (LA.out).open_ 1; have la5 := (LA.out).open_ 2
      refine wpAnyH_ready (rs := [7]) (by kernel_rfl) (by simp) ?_
      refine AllReadyH.cons (at_list rfl) (fun K hK => ?_) AllReadyH.nil
      go_simp
      refine hK.out _ _ ?_ (fun hHeld => ?_)
      · exact keep5 (bput3 QQ.out leA _ _ _) HS0.out
      clear hK K
      try simp only [Act.put, List.setIfInBounds_toArray, List.set_cons_zero, List.set_cons_succ]
      refine wpAnyH_take (i := 8) (v := .int .i64 q) (at_list rfl) (by kernel_rfl) (by kernel_rfl) (by kernel_rfl) (fun _ _ _ h => h) (Or.inl ⟨by rfl, ?_⟩) (by assumption) ?_
      · intro v hSv
        obtain ⟨p0, p1, p2, p3, p4⟩ := hSv
        go_simp
      try simp only [Act.put, List.setIfInBounds_toArray, List.set_cons_zero, List.set_cons_succ]
      refine wpAnyH_take (i := 9) (v := .int .i64 e) (at_list rfl) (by kernel_rfl) (by kernel_rfl) (by kernel_rfl) (fun _ _ _ h => h) (Or.inl ⟨by rfl, ?_⟩) (by assumption) ?_
      · intro v hSv
        obtain ⟨p0, p1, p2, p3, p4⟩ := hSv
        go_simp
      try simp only [Act.put, List.setIfInBounds_toArray, List.set_cons_zero, List.set_cons_succ]
      refine wpAnyH_done (by kernel_rfl) ?_ _
      refine NoPanic.normal ?_
      go_wp2_with fail
      go_meet
      exact ⟨_, rfl, rfl, rfl, (LA.out).put3 _ _ _, bput3 QQ.out leA _ _ _⟩
    exact AllReadyH.nil
  case rest =>
    obtain ⟨g7, rfl, rfl, rfl, kA, hb⟩ := hcut
    have K7 := Lib.hid kA
    replace HB := Lib.hid (bstep HB.out hb)
    clear kA hb HS0 K0 K5
    clear x1_0 x1_1 x1_2 x2_0 x2_1
    rcases (Bool.eq_false_or_eq_true s.k).symm with hs | hs
    · rw [hs] at K7
      clear hs
      have x1_0 := (K7.out).reads (i := 0) rfl
      have x1_1 := (K7.out).reads (i := 1) rfl
      have x1_2 := (K7.out).reads (i := 2) rfl
      go_wp2_with fail
      refine (alive3_any _).mono ?_
      rintro e w2 ⟨rfl, hw2⟩
      clear x1_0 x1_1 x1_2
      replace K7 := Lib.hid ((K7.out).keptB hw2)
      replace HB := Lib.hid (bstep HB.out hw2)
      clear hw2
      go_wp2
      go_ret
      exact ⟨rfl, HB.out⟩
    · have F2 := Lib.hid (F1.out hs)
      rw [hs] at K7 PR PA PT
      clear hs F1
      cases R
      · have x1_0 := (K7.out).reads (i := 0) rfl
        have x1_1 := (K7.out).reads (i := 1) rfl
        have x1_2 := (K7.out).reads (i := 2) rfl
        go_wp2_with fail
        refine (PR.out _).mono ?_
        rintro e w2 ⟨rfl, hw2⟩
        clear x1_0 x1_1 x1_2
        replace K7 := Lib.hid ((K7.out).keptB hw2)
        replace HB := Lib.hid (bstep HB.out hw2)
        clear hw2
        go_wp2_with fail
        refine (alive3_any _).mono ?_
        rintro e w3 ⟨rfl, hw3⟩
        replace K7 := Lib.hid ((K7.out).keptB hw3)
        replace HB := Lib.hid (bstep HB.out hw3)
        clear hw3
        go_wp2
        go_ret
        exact ⟨rfl, HB.out⟩
      · cases A
        · have x1_0 := (K7.out).reads (i := 0) rfl
          have x1_1 := (K7.out).reads (i := 1) rfl
          have x1_2 := (K7.out).reads (i := 2) rfl
          go_wp2_with fail
          refine (PR.out _).mono ?_
          rintro e w2 ⟨rfl, hw2⟩
          clear x1_0 x1_1 x1_2
          replace K7 := Lib.hid ((K7.out).keptB hw2)
          replace HB := Lib.hid (bstep HB.out hw2)
          clear hw2
          have x3_0 := (K7.out).reads (i := 0) rfl
          have x3_1 := (K7.out).reads (i := 1) rfl
          have x3_2 := (K7.out).reads (i := 2) rfl
          go_wp2_with fail
          refine (PA.out _).mono ?_
          rintro e w4 ⟨rfl, hw4⟩
          clear x3_0 x3_1 x3_2
          replace K7 := Lib.hid ((K7.out).keptB hw4)
          replace HB := Lib.hid (bstep HB.out hw4)
          clear hw4
          go_wp2_with fail
          refine (alive3_any _).mono ?_
          rintro e w5 ⟨rfl, hw5⟩
          replace K7 := Lib.hid ((K7.out).keptB hw5)
          replace HB := Lib.hid (bstep HB.out hw5)
          clear hw5
          go_wp2
          go_ret
          exact ⟨rfl, HB.out⟩
        · by_cases h1 : q < 0
          · have x1_0 := (K7.out).reads (i := 0) rfl
            have x1_1 := (K7.out).reads (i := 1) rfl
            have x1_2 := (K7.out).reads (i := 2) rfl
            go_wp2_with fail
            refine (PR.out _).mono ?_
            rintro e w2 ⟨rfl, hw2⟩
            clear x1_0 x1_1 x1_2
            replace K7 := Lib.hid ((K7.out).keptB hw2)
            replace HB := Lib.hid (bstep HB.out hw2)
            clear hw2
            have x3_0 := (K7.out).reads (i := 0) rfl
            have x3_1 := (K7.out).reads (i := 1) rfl
            have x3_2 := (K7.out).reads (i := 2) rfl
            go_wp2_with fail
            refine (PA.out _).mono ?_
            rintro e w4 ⟨rfl, hw4⟩
            clear x3_0 x3_1 x3_2
            replace K7 := Lib.hid ((K7.out).keptB hw4)
            replace HB := Lib.hid (bstep HB.out hw4)
            clear hw4
            go_wp2_with fail
            refine (alive3_any _).mono ?_
            rintro e w5 ⟨rfl, hw5⟩
            replace K7 := Lib.hid ((K7.out).keptB hw5)
            replace HB := Lib.hid (bstep HB.out hw5)
            clear hw5
            go_wp2
            go_ret
            exact ⟨rfl, HB.out⟩
          · have h1' : decide (q < 0) = false := by simpa using h1
            by_cases h2 : 1000000000 < q
            · have x1_0 := (K7.out).reads (i := 0) rfl
              have x1_1 := (K7.out).reads (i := 1) rfl
              have x1_2 := (K7.out).reads (i := 2) rfl
              go_wp2_with fail
              refine (PR.out _).mono ?_
              rintro e w2 ⟨rfl, hw2⟩
              clear x1_0 x1_1 x1_2
              replace K7 := Lib.hid ((K7.out).keptB hw2)
              replace HB := Lib.hid (bstep HB.out hw2)
              clear hw2
              have x3_0 := (K7.out).reads (i := 0) rfl
              have x3_1 := (K7.out).reads (i := 1) rfl
              have x3_2 := (K7.out).reads (i := 2) rfl
              go_wp2_with fail
              refine (PA.out _).mono ?_
              rintro e w4 ⟨rfl, hw4⟩
              clear x3_0 x3_1 x3_2
              replace K7 := Lib.hid ((K7.out).keptB hw4)
              replace HB := Lib.hid (bstep HB.out hw4)
              clear hw4
              go_wp2_with fail
              refine (alive3_any _).mono ?_
              rintro e w5 ⟨rfl, hw5⟩
              replace K7 := Lib.hid ((K7.out).keptB hw5)
              replace HB := Lib.hid (bstep HB.out hw5)
              clear hw5
              go_wp2
              go_ret
              exact ⟨rfl, HB.out⟩
            · have h2' : decide (1000000000 < q) = false := by simpa using h2
              by_cases h3 : e < -q
              · have x1_0 := (K7.out).reads (i := 0) rfl
                have x1_1 := (K7.out).reads (i := 1) rfl
                have x1_2 := (K7.out).reads (i := 2) rfl
                go_wp2_with fail
                refine (PR.out _).mono ?_
                rintro e w2 ⟨rfl, hw2⟩
                clear x1_0 x1_1 x1_2
                replace K7 := Lib.hid ((K7.out).keptB hw2)
                replace HB := Lib.hid (bstep HB.out hw2)
                clear hw2
                have x3_0 := (K7.out).reads (i := 0) rfl
                have x3_1 := (K7.out).reads (i := 1) rfl
                have x3_2 := (K7.out).reads (i := 2) rfl
                go_wp2_with fail
                refine (PA.out _).mono ?_
                rintro e w4 ⟨rfl, hw4⟩
                clear x3_0 x3_1 x3_2
                replace K7 := Lib.hid ((K7.out).keptB hw4)
                replace HB := Lib.hid (bstep HB.out hw4)
                clear hw4
                go_wp2_with fail
                refine (alive3_any _).mono ?_
                rintro e w5 ⟨rfl, hw5⟩
                replace K7 := Lib.hid ((K7.out).keptB hw5)
                replace HB := Lib.hid (bstep HB.out hw5)
                clear hw5
                go_wp2
                go_ret
                exact ⟨rfl, HB.out⟩
              · have h3' : decide (e < -q) = false := by simpa using h3
                by_cases h4 : q < e
                · have x1_0 := (K7.out).reads (i := 0) rfl
                  have x1_1 := (K7.out).reads (i := 1) rfl
                  have x1_2 := (K7.out).reads (i := 2) rfl
                  go_wp2_with fail
                  refine (PR.out _).mono ?_
                  rintro e w2 ⟨rfl, hw2⟩
                  clear x1_0 x1_1 x1_2
                  replace K7 := Lib.hid ((K7.out).keptB hw2)
                  replace HB := Lib.hid (bstep HB.out hw2)
                  clear hw2
                  have x3_0 := (K7.out).reads (i := 0) rfl
                  have x3_1 := (K7.out).reads (i := 1) rfl
                  have x3_2 := (K7.out).reads (i := 2) rfl
                  go_wp2_with fail
                  refine (PA.out _).mono ?_
                  rintro e w4 ⟨rfl, hw4⟩
                  clear x3_0 x3_1 x3_2
                  replace K7 := Lib.hid ((K7.out).keptB hw4)
                  replace HB := Lib.hid (bstep HB.out hw4)
                  clear hw4
                  go_wp2_with fail
                  refine (alive3_any _).mono ?_
                  rintro e w5 ⟨rfl, hw5⟩
                  replace K7 := Lib.hid ((K7.out).keptB hw5)
                  replace HB := Lib.hid (bstep HB.out hw5)
                  clear hw5
                  go_wp2
                  go_ret
                  exact ⟨rfl, HB.out⟩
                · have h4' : decide (q < e) = false := by simpa using h4
                  have F3 := Lib.hid (F2.out (by trivial) (by trivial) (by omega) (by omega))
                  cases B1
                  · have x1_0 := (K7.out).reads (i := 0) rfl
                    have x1_1 := (K7.out).reads (i := 1) rfl
                    have x1_2 := (K7.out).reads (i := 2) rfl
                    go_wp2_with fail
                    refine (PR.out _).mono ?_
                    rintro e w2 ⟨rfl, hw2⟩
                    clear x1_0 x1_1 x1_2
                    replace K7 := Lib.hid ((K7.out).keptB hw2)
                    replace HB := Lib.hid (bstep HB.out hw2)
                    clear hw2
                    have x3_0 := (K7.out).reads (i := 0) rfl
                    have x3_1 := (K7.out).reads (i := 1) rfl
                    have x3_2 := (K7.out).reads (i := 2) rfl
                    go_wp2_with fail
                    refine (PA.out _).mono ?_
                    rintro e w4 ⟨rfl, hw4⟩
                    clear x3_0 x3_1 x3_2
                    replace K7 := Lib.hid ((K7.out).keptB hw4)
                    replace HB := Lib.hid (bstep HB.out hw4)
                    clear hw4
                    go_wp2_with fail
                    refine (PF.out _).mono ?_
                    rintro e w5 ⟨rfl, hw5⟩
                    replace K7 := Lib.hid ((K7.out).keptB hw5)
                    replace HB := Lib.hid (bstep HB.out hw5)
                    clear hw5
                    go_wp2_with fail
                    refine (PC.out _).mono ?_
                    rintro e w6 ⟨rfl, hw6⟩
                    replace K7 := Lib.hid ((K7.out).keptB hw6)
                    replace HB := Lib.hid (bstep HB.out hw6)
                    clear hw6
                    go_wp2_with fail
                    refine (alive3_any _).mono ?_
                    rintro e w7 ⟨rfl, hw7⟩
                    replace K7 := Lib.hid ((K7.out).keptB hw7)
                    replace HB := Lib.hid (bstep HB.out hw7)
                    clear hw7
                    go_wp2
                    go_ret
                    exact ⟨rfl, HB.out⟩
                  · cases B2
                    · have x1_0 := (K7.out).reads (i := 0) rfl
                      have x1_1 := (K7.out).reads (i := 1) rfl
                      have x1_2 := (K7.out).reads (i := 2) rfl
                      go_wp2_with fail
                      refine (PR.out _).mono ?_
                      rintro e w2 ⟨rfl, hw2⟩
                      clear x1_0 x1_1 x1_2
                      replace K7 := Lib.hid ((K7.out).keptB hw2)
                      replace HB := Lib.hid (bstep HB.out hw2)
                      clear hw2
                      have x3_0 := (K7.out).reads (i := 0) rfl
                      have x3_1 := (K7.out).reads (i := 1) rfl
                      have x3_2 := (K7.out).reads (i := 2) rfl
                      go_wp2_with fail
                      refine (PA.out _).mono ?_
                      rintro e w4 ⟨rfl, hw4⟩
                      clear x3_0 x3_1 x3_2
                      replace K7 := Lib.hid ((K7.out).keptB hw4)
                      replace HB := Lib.hid (bstep HB.out hw4)
                      clear hw4
                      go_wp2_with fail
                      refine (PF.out _).mono ?_
                      rintro e w5 ⟨rfl, hw5⟩
                      replace K7 := Lib.hid ((K7.out).keptB hw5)
                      replace HB := Lib.hid (bstep HB.out hw5)
                      clear hw5
                      go_wp2_with fail
                      refine (PC.out _).mono ?_
                      rintro e w6 ⟨rfl, hw6⟩
                      replace K7 := Lib.hid ((K7.out).keptB hw6)
                      replace HB := Lib.hid (bstep HB.out hw6)
                      clear hw6
                      go_wp2_with fail
                      refine (alive3_any _).mono ?_
                      rintro e w7 ⟨rfl, hw7⟩
                      replace K7 := Lib.hid ((K7.out).keptB hw7)
                      replace HB := Lib.hid (bstep HB.out hw7)
                      clear hw7
                      go_wp2
                      go_ret
                      exact ⟨rfl, HB.out⟩
                    · have F4 := Lib.hid (F3.out (by trivial) (by trivial))
                      rw [(F4.out).1] at PX
                      rw [(F4.out).2] at PY
                      have x1_0 := (K7.out).reads (i := 0) rfl
                      have x1_1 := (K7.out).reads (i := 1) rfl
                      have x1_2 := (K7.out).reads (i := 2) rfl
                      go_wp2_with fail
                      refine (PR.out _).mono ?_
                      rintro e w2 ⟨rfl, hw2⟩
                      clear x1_0 x1_1 x1_2
                      replace K7 := Lib.hid ((K7.out).keptB hw2)
                      replace HB := Lib.hid (bstep HB.out hw2)
                      clear hw2
                      have x3_0 := (K7.out).reads (i := 0) rfl
                      have x3_1 := (K7.out).reads (i := 1) rfl
                      have x3_2 := (K7.out).reads (i := 2) rfl
                      go_wp2_with fail
                      refine (PA.out _).mono ?_
                      rintro e w4 ⟨rfl, hw4⟩
                      clear x3_0 x3_1 x3_2
                      replace K7 := Lib.hid ((K7.out).keptB hw4)
                      replace HB := Lib.hid (bstep HB.out hw4)
                      clear hw4
                      go_wp2_with fail
                      refine (PF.out _).mono ?_
                      rintro e w5 ⟨rfl, hw5⟩
                      replace K7 := Lib.hid ((K7.out).keptB hw5)
                      replace HB := Lib.hid (bstep HB.out hw5)
                      clear hw5
                      go_wp2_with fail
                      refine (PC.out _).mono ?_
                      rintro e w6 ⟨rfl, hw6⟩
                      replace K7 := Lib.hid ((K7.out).keptB hw6)
                      replace HB := Lib.hid (bstep HB.out hw6)
                      clear hw6
                      have x7_0 := (K7.out).reads (i := 0) rfl
                      have x7_1 := (K7.out).reads (i := 1) rfl
                      have x7_2 := (K7.out).reads (i := 2) rfl
                      go_wp2_with fail
                      refine (PT.out _).mono ?_
                      rintro e w8 ⟨rfl, hw8⟩
                      clear x7_0 x7_1 x7_2
                      replace K7 := Lib.hid ((K7.out).keptB hw8)
                      replace HB := Lib.hid (bstep HB.out hw8)
                      clear hw8
                      replace K7 := Lib.hid ((K7.out).laid (.cells #[.int .i64 T.lo, .int .i64 T.hi, .bool T.k] 24))
                      have K14 := Lib.hid (Holds.fresh w8 24 #[.int .i64 T.lo, .int .i64 T.hi, .bool T.k] (g := (w8).heap.size) rfl)
                      replace HB := Lib.hid (bstep HB.out (bnew _ (.cells #[.int .i64 T.lo, .int .i64 T.hi, .bool T.k] 24)))
                      have x9_0 := (K14.out).reads (i := 0) rfl
                      have x9_1 := (K14.out).reads (i := 1) rfl
                      have x9_2 := (K14.out).reads (i := 2) rfl
                      go_wp2_with fail
                      refine (alive3_any _).mono ?_
                      rintro e w10 ⟨rfl, hw10⟩
                      clear x9_0 x9_1 x9_2
                      replace K7 := Lib.hid ((K7.out).keptB hw10)
                      replace K14 := Lib.hid ((K14.out).keptB hw10)
                      replace HB := Lib.hid (bstep HB.out hw10)
                      clear hw10
                      have x11_0 := (K14.out).reads (i := 0) rfl
                      have x11_1 := (K14.out).reads (i := 1) rfl
                      have x11_2 := (K14.out).reads (i := 2) rfl
                      go_wp2_with fail
                      refine (PX.out _).mono ?_
                      rintro e w12 ⟨rfl, hw12⟩
                      clear x11_0 x11_1 x11_2
                      replace K7 := Lib.hid ((K7.out).keptB hw12)
                      replace K14 := Lib.hid ((K14.out).keptB hw12)
                      replace HB := Lib.hid (bstep HB.out hw12)
                      clear hw12
                      have x13_0 := (K14.out).reads (i := 0) rfl
                      have x13_1 := (K14.out).reads (i := 1) rfl
                      have x13_2 := (K14.out).reads (i := 2) rfl
                      go_wp2_with fail
                      refine (PY.out _).mono ?_
                      rintro e w14 ⟨rfl, hw14⟩
                      clear x13_0 x13_1 x13_2
                      replace K7 := Lib.hid ((K7.out).keptB hw14)
                      replace K14 := Lib.hid ((K14.out).keptB hw14)
                      replace HB := Lib.hid (bstep HB.out hw14)
                      clear hw14
                      go_wp2
                      go_ret
                      exact ⟨rfl, HB.out⟩

end Go.Proofs.Ytcjfiipcmaegnaa
