/- The walk over the law IdentTexts. -/
import Derived.Test.YtbiglmpibdlhmaaIdentAlive
import Derived.Test.YtbiglmpibdlhmaaByHand
namespace Go.Proofs.Ytbiglmpibdlhmaa
open Go.RowKit
set_option linter.unusedVariables false

theorem idread_any (s : ByteArray) (w : World) (hm : s.size ≤ maxLen) :
    Calls Try.prog 16 #[.string s] w fun e w' => e = ckR (rdC (strL s)) (rdB (strL s)) ∧ Below w.heap.size w w' := by
  by_cases h : s.size = 16
  · exact idread_16 s w h
  · exact idread_short s w h hm
theorem ridread_any (s : ByteArray) (w : World) (hm : s.size ≤ maxLen) :
    Calls Try.prog 17 #[.string s] w fun e w' => e = ckR (rdC (strL s)) (rdB (strL s)) ∧ Below w.heap.size w w' := by
  by_cases h : s.size = 16
  · exact ridread_16 s w h
  · exact ridread_short s w h hm

set_option maxRecDepth 100000 in
set_option maxHeartbeats 4000000 in
theorem texts4_walk (c : Ck) (s : ByteArray) (hc : c.ok) (hm : s.size ≤ maxLen) (w : World) :
    Calls Try.prog 4 #[.agg #[.int .u8 c.b0, .int .u8 c.b1, .int .u8 c.b2, .int .u8 c.b3, .int .u8 c.b4, .int .u8 c.b5, .int .u8 c.b6, .int .u8 c.b7], .string s] w fun e w' => e = .returned (.bool true) ∧ Below w.heap.size w w' := by
  obtain ⟨d, Hd⟩ : ∃ d, Hid (rdC (strL s) = d) := ⟨_, Lib.hid rfl⟩
  obtain ⟨S1, HS1⟩ : ∃ S1, Hid (strOfNums (hexL c.l) = S1) := ⟨_, Lib.hid rfl⟩
  have C3 : Hid (∀ v, Calls Try.prog 18 #[.agg #[.int .u8 c.b0, .int .u8 c.b1, .int .u8 c.b2, .int .u8 c.b3, .int .u8 c.b4, .int .u8 c.b5, .int .u8 c.b6, .int .u8 c.b7]] v fun e w' => e = .returned (.string S1) ∧ Below v.heap.size v w') := by rw [← HS1.out]; exact fun v => text_any c hc v
  have C4 : Hid (∀ v, Calls Try.prog 19 #[.agg #[.int .u8 c.b0, .int .u8 c.b1, .int .u8 c.b2, .int .u8 c.b3, .int .u8 c.b4, .int .u8 c.b5, .int .u8 c.b6, .int .u8 c.b7]] v fun e w' => e = .returned (.string S1) ∧ Below v.heap.size v w') := by rw [← HS1.out]; exact fun v => rtext_any c hc v
  have HE : Hid (strL S1 = hexL c.l ∧ S1.size ≤ maxLen) := by
    rw [Hid, ← HS1.out]
    exact ⟨strL_str (hexL_byte hc), by rw [strOfNums_size, hexL_length, Ck.len]; unfold maxLen; omega⟩
  have C5 : Hid (∀ v, Calls Try.prog 16 #[.string S1] v fun e w' => e = .returned (.tuple #[.agg #[.int .u8 c.b0, .int .u8 c.b1, .int .u8 c.b2, .int .u8 c.b3, .int .u8 c.b4, .int .u8 c.b5, .int .u8 c.b6, .int .u8 c.b7], .bool true]) ∧ Below v.heap.size v w') := by
    intro v
    have h := idread_any S1 v (HE.out).2
    rw [(HE.out).1, (rd_hex hc).1, (rd_hex hc).2] at h
    exact h
  have hq1 := eql_clock c c
  rw [eqC_self] at hq1
  have HQ1 := Lib.hid hq1
  have hq2 := eql_clock d d
  rw [eqC_self] at hq2
  have HQ2 := Lib.hid hq2
  clear hq1 hq2
  cases hB : rdB (strL s)
  · have C1 : Hid (∀ v, Calls Try.prog 16 #[.string s] v fun e w' => e = .returned (.tuple #[.agg #[.int .u8 d.b0, .int .u8 d.b1, .int .u8 d.b2, .int .u8 d.b3, .int .u8 d.b4, .int .u8 d.b5, .int .u8 d.b6, .int .u8 d.b7], .bool false]) ∧ Below v.heap.size v w') := by
      intro v
      have h := idread_any s v hm
      rw [hB, Hd.out] at h
      exact h
    have C2 : Hid (∀ v, Calls Try.prog 17 #[.string s] v fun e w' => e = .returned (.tuple #[.agg #[.int .u8 d.b0, .int .u8 d.b1, .int .u8 d.b2, .int .u8 d.b3, .int .u8 d.b4, .int .u8 d.b5, .int .u8 d.b6, .int .u8 d.b7], .bool false]) ∧ Below v.heap.size v w') := by
      intro v
      have h := ridread_any s v hm
      rw [hB, Hd.out] at h
      exact h
    clear hc hm hB
    have K2 := Lib.hid (Holds.fresh w 23 #[.int .u8 c.b0, .int .u8 c.b1, .int .u8 c.b2, .int .u8 c.b3, .int .u8 c.b4, .int .u8 c.b5, .int .u8 c.b6, .int .u8 c.b7] (g := w.heap.size) (by simp))
    have HB := Lib.hid (bnew w (.cells #[.int .u8 c.b0, .int .u8 c.b1, .int .u8 c.b2, .int .u8 c.b3, .int .u8 c.b4, .int .u8 c.b5, .int .u8 c.b6, .int .u8 c.b7] 23))
    go_enter Try.func4, Try.ntmps4
    go_wp2_with fail
    generalize (w.alloc (.cells #[.int .u8 c.b0, .int .u8 c.b1, .int .u8 c.b2, .int .u8 c.b3, .int .u8 c.b4, .int .u8 c.b5, .int .u8 c.b6, .int .u8 c.b7] 23)) = W0 at *
    refine (C1.out _).mono ?_
    rintro e w1 ⟨rfl, hw1⟩
    replace K2 := Lib.hid ((K2.out).keptB hw1)
    replace HB := Lib.hid (bstep HB.out hw1)
    clear hw1
    replace K2 := Lib.hid ((K2.out).laid (.cells #[.int .u8 d.b0, .int .u8 d.b1, .int .u8 d.b2, .int .u8 d.b3, .int .u8 d.b4, .int .u8 d.b5, .int .u8 d.b6, .int .u8 d.b7] 23))
    have K5 := Lib.hid (Holds.fresh w1 23 #[.int .u8 d.b0, .int .u8 d.b1, .int .u8 d.b2, .int .u8 d.b3, .int .u8 d.b4, .int .u8 d.b5, .int .u8 d.b6, .int .u8 d.b7] (g := (w1).heap.size) rfl)
    replace HB := Lib.hid (bstep HB.out (bnew _ (.cells #[.int .u8 d.b0, .int .u8 d.b1, .int .u8 d.b2, .int .u8 d.b3, .int .u8 d.b4, .int .u8 d.b5, .int .u8 d.b6, .int .u8 d.b7] 23)))
    go_wp2_with fail
    refine (C2.out _).mono ?_
    rintro e w2 ⟨rfl, hw2⟩
    replace K2 := Lib.hid ((K2.out).keptB hw2)
    replace K5 := Lib.hid ((K5.out).keptB hw2)
    replace HB := Lib.hid (bstep HB.out hw2)
    clear hw2
    replace K2 := Lib.hid ((K2.out).laid (.cells #[.int .u8 d.b0, .int .u8 d.b1, .int .u8 d.b2, .int .u8 d.b3, .int .u8 d.b4, .int .u8 d.b5, .int .u8 d.b6, .int .u8 d.b7] 23))
    replace K5 := Lib.hid ((K5.out).laid (.cells #[.int .u8 d.b0, .int .u8 d.b1, .int .u8 d.b2, .int .u8 d.b3, .int .u8 d.b4, .int .u8 d.b5, .int .u8 d.b6, .int .u8 d.b7] 23))
    have K7 := Lib.hid (Holds.fresh w2 23 #[.int .u8 d.b0, .int .u8 d.b1, .int .u8 d.b2, .int .u8 d.b3, .int .u8 d.b4, .int .u8 d.b5, .int .u8 d.b6, .int .u8 d.b7] (g := (w2).heap.size) rfl)
    replace HB := Lib.hid (bstep HB.out (bnew _ (.cells #[.int .u8 d.b0, .int .u8 d.b1, .int .u8 d.b2, .int .u8 d.b3, .int .u8 d.b4, .int .u8 d.b5, .int .u8 d.b6, .int .u8 d.b7] 23)))
    have x3_0 := (K2.out).reads (i := 0) rfl
    have x3_1 := (K2.out).reads (i := 1) rfl
    have x3_2 := (K2.out).reads (i := 2) rfl
    have x3_3 := (K2.out).reads (i := 3) rfl
    have x3_4 := (K2.out).reads (i := 4) rfl
    have x3_5 := (K2.out).reads (i := 5) rfl
    have x3_6 := (K2.out).reads (i := 6) rfl
    have x3_7 := (K2.out).reads (i := 7) rfl
    go_wp2_with fail
    refine (C3.out _).mono ?_
    rintro e w4 ⟨rfl, hw4⟩
    clear x3_0 x3_1 x3_2 x3_3 x3_4 x3_5 x3_6 x3_7
    replace K2 := Lib.hid ((K2.out).keptB hw4)
    replace K5 := Lib.hid ((K5.out).keptB hw4)
    replace K7 := Lib.hid ((K7.out).keptB hw4)
    replace HB := Lib.hid (bstep HB.out hw4)
    clear hw4
    go_wp2_with fail
    refine (C5.out _).mono ?_
    rintro e w5 ⟨rfl, hw5⟩
    replace K2 := Lib.hid ((K2.out).keptB hw5)
    replace K5 := Lib.hid ((K5.out).keptB hw5)
    replace K7 := Lib.hid ((K7.out).keptB hw5)
    replace HB := Lib.hid (bstep HB.out hw5)
    clear hw5
    replace K2 := Lib.hid ((K2.out).laid (.cells #[.int .u8 c.b0, .int .u8 c.b1, .int .u8 c.b2, .int .u8 c.b3, .int .u8 c.b4, .int .u8 c.b5, .int .u8 c.b6, .int .u8 c.b7] 23))
    replace K5 := Lib.hid ((K5.out).laid (.cells #[.int .u8 c.b0, .int .u8 c.b1, .int .u8 c.b2, .int .u8 c.b3, .int .u8 c.b4, .int .u8 c.b5, .int .u8 c.b6, .int .u8 c.b7] 23))
    replace K7 := Lib.hid ((K7.out).laid (.cells #[.int .u8 c.b0, .int .u8 c.b1, .int .u8 c.b2, .int .u8 c.b3, .int .u8 c.b4, .int .u8 c.b5, .int .u8 c.b6, .int .u8 c.b7] 23))
    have K9 := Lib.hid (Holds.fresh w5 23 #[.int .u8 c.b0, .int .u8 c.b1, .int .u8 c.b2, .int .u8 c.b3, .int .u8 c.b4, .int .u8 c.b5, .int .u8 c.b6, .int .u8 c.b7] (g := (w5).heap.size) rfl)
    replace HB := Lib.hid (bstep HB.out (bnew _ (.cells #[.int .u8 c.b0, .int .u8 c.b1, .int .u8 c.b2, .int .u8 c.b3, .int .u8 c.b4, .int .u8 c.b5, .int .u8 c.b6, .int .u8 c.b7] 23)))
    go_wp2_with fail
    obtain ⟨g5, hg5⟩ : ∃ g, (w1).heap.size = g := ⟨_, rfl⟩
    rw [hg5] at K5 ⊢
    clear hg5
    obtain ⟨g7, hg7⟩ : ∃ g, (w2).heap.size = g := ⟨_, rfl⟩
    rw [hg7] at K7 ⊢
    clear hg7
    obtain ⟨g9, hg9⟩ : ∃ g, (w5).heap.size = g := ⟨_, rfl⟩
    rw [hg9] at K9 ⊢
    clear hg9
    generalize (w5.alloc (.cells #[.int .u8 c.b0, .int .u8 c.b1, .int .u8 c.b2, .int .u8 c.b3, .int .u8 c.b4, .int .u8 c.b5, .int .u8 c.b6, .int .u8 c.b7] 23)) = V9 at *
    have hq1 := HQ1.out
    have hq2 := HQ2.out
    have x6_0 := (K2.out).reads (i := 0) rfl
    have x6_1 := (K2.out).reads (i := 1) rfl
    have x6_2 := (K2.out).reads (i := 2) rfl
    have x6_3 := (K2.out).reads (i := 3) rfl
    have x6_4 := (K2.out).reads (i := 4) rfl
    have x6_5 := (K2.out).reads (i := 5) rfl
    have x6_6 := (K2.out).reads (i := 6) rfl
    have x6_7 := (K2.out).reads (i := 7) rfl
    have x7_0 := (K5.out).reads (i := 0) rfl
    have x7_1 := (K5.out).reads (i := 1) rfl
    have x7_2 := (K5.out).reads (i := 2) rfl
    have x7_3 := (K5.out).reads (i := 3) rfl
    have x7_4 := (K5.out).reads (i := 4) rfl
    have x7_5 := (K5.out).reads (i := 5) rfl
    have x7_6 := (K5.out).reads (i := 6) rfl
    have x7_7 := (K5.out).reads (i := 7) rfl
    have x8_0 := (K7.out).reads (i := 0) rfl
    have x8_1 := (K7.out).reads (i := 1) rfl
    have x8_2 := (K7.out).reads (i := 2) rfl
    have x8_3 := (K7.out).reads (i := 3) rfl
    have x8_4 := (K7.out).reads (i := 4) rfl
    have x8_5 := (K7.out).reads (i := 5) rfl
    have x8_6 := (K7.out).reads (i := 6) rfl
    have x8_7 := (K7.out).reads (i := 7) rfl
    have x9_0 := (K9.out).reads (i := 0) rfl
    have x9_1 := (K9.out).reads (i := 1) rfl
    have x9_2 := (K9.out).reads (i := 2) rfl
    have x9_3 := (K9.out).reads (i := 3) rfl
    have x9_4 := (K9.out).reads (i := 4) rfl
    have x9_5 := (K9.out).reads (i := 5) rfl
    have x9_6 := (K9.out).reads (i := 6) rfl
    have x9_7 := (K9.out).reads (i := 7) rfl
    refine wp_region_held_drew (S := fun v => v.cell? ⟨w.heap.size, 0, none⟩ = some (.int .u8 c.b0) ∧ v.cell? ⟨w.heap.size, 1, none⟩ = some (.int .u8 c.b1) ∧ v.cell? ⟨w.heap.size, 2, none⟩ = some (.int .u8 c.b2) ∧ v.cell? ⟨w.heap.size, 3, none⟩ = some (.int .u8 c.b3) ∧ v.cell? ⟨w.heap.size, 4, none⟩ = some (.int .u8 c.b4) ∧ v.cell? ⟨w.heap.size, 5, none⟩ = some (.int .u8 c.b5) ∧ v.cell? ⟨w.heap.size, 6, none⟩ = some (.int .u8 c.b6) ∧ v.cell? ⟨w.heap.size, 7, none⟩ = some (.int .u8 c.b7) ∧ v.cell? ⟨g5, 0, none⟩ = some (.int .u8 d.b0) ∧ v.cell? ⟨g5, 1, none⟩ = some (.int .u8 d.b1) ∧ v.cell? ⟨g5, 2, none⟩ = some (.int .u8 d.b2) ∧ v.cell? ⟨g5, 3, none⟩ = some (.int .u8 d.b3) ∧ v.cell? ⟨g5, 4, none⟩ = some (.int .u8 d.b4) ∧ v.cell? ⟨g5, 5, none⟩ = some (.int .u8 d.b5) ∧ v.cell? ⟨g5, 6, none⟩ = some (.int .u8 d.b6) ∧ v.cell? ⟨g5, 7, none⟩ = some (.int .u8 d.b7) ∧ v.cell? ⟨g7, 0, none⟩ = some (.int .u8 d.b0) ∧ v.cell? ⟨g7, 1, none⟩ = some (.int .u8 d.b1) ∧ v.cell? ⟨g7, 2, none⟩ = some (.int .u8 d.b2) ∧ v.cell? ⟨g7, 3, none⟩ = some (.int .u8 d.b3) ∧ v.cell? ⟨g7, 4, none⟩ = some (.int .u8 d.b4) ∧ v.cell? ⟨g7, 5, none⟩ = some (.int .u8 d.b5) ∧ v.cell? ⟨g7, 6, none⟩ = some (.int .u8 d.b6) ∧ v.cell? ⟨g7, 7, none⟩ = some (.int .u8 d.b7) ∧ v.cell? ⟨g9, 0, none⟩ = some (.int .u8 c.b0) ∧ v.cell? ⟨g9, 1, none⟩ = some (.int .u8 c.b1) ∧ v.cell? ⟨g9, 2, none⟩ = some (.int .u8 c.b2) ∧ v.cell? ⟨g9, 3, none⟩ = some (.int .u8 c.b3) ∧ v.cell? ⟨g9, 4, none⟩ = some (.int .u8 c.b4) ∧ v.cell? ⟨g9, 5, none⟩ = some (.int .u8 c.b5) ∧ v.cell? ⟨g9, 6, none⟩ = some (.int .u8 c.b6) ∧ v.cell? ⟨g9, 7, none⟩ = some (.int .u8 c.b7)) (by kernel_rfl) ?_ (fun hHeld => ?_)
    · exact ⟨x6_0, x6_1, x6_2, x6_3, x6_4, x6_5, x6_6, x6_7, x7_0, x7_1, x7_2, x7_3, x7_4, x7_5, x7_6, x7_7, x8_0, x8_1, x8_2, x8_3, x8_4, x8_5, x8_6, x8_7, x9_0, x9_1, x9_2, x9_3, x9_4, x9_5, x9_6, x9_7⟩
    refine wpAnyH_ready (rs := [0]) (by kernel_rfl) (by simp) ?_
    refine AllReadyH.cons (at_list rfl) (fun K hK => ?_) AllReadyH.nil
    go_simp
    refine (alive4_any _).mono ?_
    rintro e v10_0 ⟨rfl, hv10_0⟩
    go_wp2_with fail
    refine hK.out _ _ ?_ (fun hHeld => ?_)
    · exact keep32 hv10_0 (by assumption)
    clear hK K
    try simp only [Act.put, List.setIfInBounds_toArray, List.set_cons_zero, List.set_cons_succ]
    refine wpAnyH_take (i := 1) (v := .bool true) (at_list rfl) (by kernel_rfl) (by kernel_rfl) (by kernel_rfl) (fun _ _ _ h => h) (Or.inl ⟨by rfl, ?_⟩) (by assumption) ?_
    · intro v hSv
      obtain ⟨q0, q1, q2, q3, q4, q5, q6, q7, q8, q9, q10, q11, q12, q13, q14, q15, q16, q17, q18, q19, q20, q21, q22, q23, q24, q25, q26, q27, q28, q29, q30, q31⟩ := hSv
      go_simp
    try simp only [Act.put, List.setIfInBounds_toArray, List.set_cons_zero, List.set_cons_succ]
    refine wpAnyH_take (i := 2) (v := .agg #[.int .u8 c.b0, .int .u8 c.b1, .int .u8 c.b2, .int .u8 c.b3, .int .u8 c.b4, .int .u8 c.b5, .int .u8 c.b6, .int .u8 c.b7]) (at_list rfl) (by kernel_rfl) (by kernel_rfl) (by kernel_rfl) (fun _ _ _ h => h) (Or.inl ⟨by rfl, ?_⟩) (by assumption) ?_
    · intro v hSv
      obtain ⟨q0, q1, q2, q3, q4, q5, q6, q7, q8, q9, q10, q11, q12, q13, q14, q15, q16, q17, q18, q19, q20, q21, q22, q23, q24, q25, q26, q27, q28, q29, q30, q31⟩ := hSv
      go_simp
    try simp only [Act.put, List.setIfInBounds_toArray, List.set_cons_zero, List.set_cons_succ]
    refine wpAnyH_take (i := 4) (v := .agg #[.int .u8 c.b0, .int .u8 c.b1, .int .u8 c.b2, .int .u8 c.b3, .int .u8 c.b4, .int .u8 c.b5, .int .u8 c.b6, .int .u8 c.b7]) (at_list rfl) (by kernel_rfl) (by kernel_rfl) (by kernel_rfl) (fun _ _ _ h => h) (Or.inl ⟨by rfl, ?_⟩) (by assumption) ?_
    · intro v hSv
      obtain ⟨q0, q1, q2, q3, q4, q5, q6, q7, q8, q9, q10, q11, q12, q13, q14, q15, q16, q17, q18, q19, q20, q21, q22, q23, q24, q25, q26, q27, q28, q29, q30, q31⟩ := hSv
      go_simp
    try simp only [Act.put, List.setIfInBounds_toArray, List.set_cons_zero, List.set_cons_succ]
    refine wpAnyH_ready (rs := [3]) (by kernel_rfl) (by simp) ?_
    refine AllReadyH.cons (at_list rfl) (fun K hK => ?_) AllReadyH.nil
    go_simp
    refine (C3.out _).mono ?_
    rintro e v10_4 ⟨rfl, hv10_4⟩
    go_wp2_with fail
    refine hK.out _ _ ?_ (fun hHeld => ?_)
    · exact keep32 hv10_4 (by assumption)
    clear hK K
    try simp only [Act.put, List.setIfInBounds_toArray, List.set_cons_zero, List.set_cons_succ]
    refine wpAnyH_ready (rs := [5]) (by kernel_rfl) (by simp) ?_
    refine AllReadyH.cons (at_list rfl) (fun K hK => ?_) AllReadyH.nil
    go_simp
    refine (C4.out _).mono ?_
    rintro e v10_5 ⟨rfl, hv10_5⟩
    go_wp2_with fail
    refine hK.out _ _ ?_ (fun hHeld => ?_)
    · exact keep32 hv10_5 (by assumption)
    clear hK K
    try simp only [Act.put, List.setIfInBounds_toArray, List.set_cons_zero, List.set_cons_succ]
    refine wpAnyH_take (i := 6) (v := .bool true) (at_list rfl) (by kernel_rfl) (by kernel_rfl) (by kernel_rfl) (fun _ _ _ h => h) (Or.inl ⟨by rfl, ?_⟩) (by assumption) ?_
    · intro v hSv
      obtain ⟨q0, q1, q2, q3, q4, q5, q6, q7, q8, q9, q10, q11, q12, q13, q14, q15, q16, q17, q18, q19, q20, q21, q22, q23, q24, q25, q26, q27, q28, q29, q30, q31⟩ := hSv
      go_simp
    try simp only [Act.put, List.setIfInBounds_toArray, List.set_cons_zero, List.set_cons_succ]
    refine wpAnyH_take (i := 7) (v := .bool true) (at_list rfl) (by kernel_rfl) (by kernel_rfl) (by kernel_rfl) (fun _ _ _ h => h) (Or.inl ⟨by rfl, ?_⟩) (by assumption) ?_
    · intro v hSv
      obtain ⟨q0, q1, q2, q3, q4, q5, q6, q7, q8, q9, q10, q11, q12, q13, q14, q15, q16, q17, q18, q19, q20, q21, q22, q23, q24, q25, q26, q27, q28, q29, q30, q31⟩ := hSv
      go_simp
    try simp only [Act.put, List.setIfInBounds_toArray, List.set_cons_zero, List.set_cons_succ]
    refine wpAnyH_take (i := 8) (v := .bool true) (at_list rfl) (by kernel_rfl) (by kernel_rfl) (by kernel_rfl) (fun _ _ _ h => h) (Or.inl ⟨by rfl, ?_⟩) (by assumption) ?_
    · intro v hSv
      obtain ⟨q0, q1, q2, q3, q4, q5, q6, q7, q8, q9, q10, q11, q12, q13, q14, q15, q16, q17, q18, q19, q20, q21, q22, q23, q24, q25, q26, q27, q28, q29, q30, q31⟩ := hSv
      go_simp
    try simp only [Act.put, List.setIfInBounds_toArray, List.set_cons_zero, List.set_cons_succ]
    refine wpAnyH_take (i := 9) (v := .agg #[.int .u8 d.b0, .int .u8 d.b1, .int .u8 d.b2, .int .u8 d.b3, .int .u8 d.b4, .int .u8 d.b5, .int .u8 d.b6, .int .u8 d.b7]) (at_list rfl) (by kernel_rfl) (by kernel_rfl) (by kernel_rfl) (fun _ _ _ h => h) (Or.inl ⟨by rfl, ?_⟩) (by assumption) ?_
    · intro v hSv
      obtain ⟨q0, q1, q2, q3, q4, q5, q6, q7, q8, q9, q10, q11, q12, q13, q14, q15, q16, q17, q18, q19, q20, q21, q22, q23, q24, q25, q26, q27, q28, q29, q30, q31⟩ := hSv
      go_simp
    try simp only [Act.put, List.setIfInBounds_toArray, List.set_cons_zero, List.set_cons_succ]
    refine wpAnyH_take (i := 10) (v := .agg #[.int .u8 d.b0, .int .u8 d.b1, .int .u8 d.b2, .int .u8 d.b3, .int .u8 d.b4, .int .u8 d.b5, .int .u8 d.b6, .int .u8 d.b7]) (at_list rfl) (by kernel_rfl) (by kernel_rfl) (by kernel_rfl) (fun _ _ _ h => h) (Or.inl ⟨by rfl, ?_⟩) (by assumption) ?_
    · intro v hSv
      obtain ⟨q0, q1, q2, q3, q4, q5, q6, q7, q8, q9, q10, q11, q12, q13, q14, q15, q16, q17, q18, q19, q20, q21, q22, q23, q24, q25, q26, q27, q28, q29, q30, q31⟩ := hSv
      go_simp
    try simp only [Act.put, List.setIfInBounds_toArray, List.set_cons_zero, List.set_cons_succ]
    refine wpAnyH_take (i := 11) (v := .bool true) (at_list rfl) (by kernel_rfl) (by kernel_rfl) (by kernel_rfl) (fun _ _ _ h => h) (Or.inl ⟨by rfl, ?_⟩) (by assumption) ?_
    · intro v hSv
      obtain ⟨q0, q1, q2, q3, q4, q5, q6, q7, q8, q9, q10, q11, q12, q13, q14, q15, q16, q17, q18, q19, q20, q21, q22, q23, q24, q25, q26, q27, q28, q29, q30, q31⟩ := hSv
      go_simp
    try simp only [Act.put, List.setIfInBounds_toArray, List.set_cons_zero, List.set_cons_succ]
    refine wpAnyH_take (i := 12) (v := .bool true) (at_list rfl) (by kernel_rfl) (by kernel_rfl) (by kernel_rfl) (fun _ _ _ h => h) (Or.inl ⟨by rfl, ?_⟩) (by assumption) ?_
    · intro v hSv
      obtain ⟨q0, q1, q2, q3, q4, q5, q6, q7, q8, q9, q10, q11, q12, q13, q14, q15, q16, q17, q18, q19, q20, q21, q22, q23, q24, q25, q26, q27, q28, q29, q30, q31⟩ := hSv
      go_simp
    try simp only [Act.put, List.setIfInBounds_toArray, List.set_cons_zero, List.set_cons_succ]
    refine wpAnyH_take (i := 13) (v := .bool true) (at_list rfl) (by kernel_rfl) (by kernel_rfl) (by kernel_rfl) (fun _ _ _ h => h) (Or.inl ⟨by rfl, ?_⟩) (by assumption) ?_
    · intro v hSv
      obtain ⟨q0, q1, q2, q3, q4, q5, q6, q7, q8, q9, q10, q11, q12, q13, q14, q15, q16, q17, q18, q19, q20, q21, q22, q23, q24, q25, q26, q27, q28, q29, q30, q31⟩ := hSv
      go_simp
    try simp only [Act.put, List.setIfInBounds_toArray, List.set_cons_zero, List.set_cons_succ]
    refine wpAnyH_take (i := 14) (v := .bool false) (at_list rfl) (by kernel_rfl) (by kernel_rfl) (by kernel_rfl) (fun _ _ _ h => h) (Or.inl ⟨by rfl, ?_⟩) (by assumption) ?_
    · intro v hSv
      obtain ⟨q0, q1, q2, q3, q4, q5, q6, q7, q8, q9, q10, q11, q12, q13, q14, q15, q16, q17, q18, q19, q20, q21, q22, q23, q24, q25, q26, q27, q28, q29, q30, q31⟩ := hSv
      go_simp
    try simp only [Act.put, List.setIfInBounds_toArray, List.set_cons_zero, List.set_cons_succ]
    refine wpAnyH_take (i := 15) (v := .bool false) (at_list rfl) (by kernel_rfl) (by kernel_rfl) (by kernel_rfl) (fun _ _ _ h => h) (Or.inl ⟨by rfl, ?_⟩) (by assumption) ?_
    · intro v hSv
      obtain ⟨q0, q1, q2, q3, q4, q5, q6, q7, q8, q9, q10, q11, q12, q13, q14, q15, q16, q17, q18, q19, q20, q21, q22, q23, q24, q25, q26, q27, q28, q29, q30, q31⟩ := hSv
      go_simp
    try simp only [Act.put, List.setIfInBounds_toArray, List.set_cons_zero, List.set_cons_succ]
    refine wpAnyH_take (i := 16) (v := .bool true) (at_list rfl) (by kernel_rfl) (by kernel_rfl) (by kernel_rfl) (fun _ _ _ h => h) (Or.inl ⟨by rfl, ?_⟩) (by assumption) ?_
    · intro v hSv
      obtain ⟨q0, q1, q2, q3, q4, q5, q6, q7, q8, q9, q10, q11, q12, q13, q14, q15, q16, q17, q18, q19, q20, q21, q22, q23, q24, q25, q26, q27, q28, q29, q30, q31⟩ := hSv
      go_simp
    try simp only [Act.put, List.setIfInBounds_toArray, List.set_cons_zero, List.set_cons_succ]
    refine wpAnyH_take (i := 17) (v := .bool true) (at_list rfl) (by kernel_rfl) (by kernel_rfl) (by kernel_rfl) (fun _ _ _ h => h) (Or.inl ⟨by rfl, ?_⟩) (by assumption) ?_
    · intro v hSv
      obtain ⟨q0, q1, q2, q3, q4, q5, q6, q7, q8, q9, q10, q11, q12, q13, q14, q15, q16, q17, q18, q19, q20, q21, q22, q23, q24, q25, q26, q27, q28, q29, q30, q31⟩ := hSv
      go_simp
    try simp only [Act.put, List.setIfInBounds_toArray, List.set_cons_zero, List.set_cons_succ]
    refine wpAnyH_take (i := 18) (v := .bool true) (at_list rfl) (by kernel_rfl) (by kernel_rfl) (by kernel_rfl) (fun _ _ _ h => h) (Or.inl ⟨by rfl, ?_⟩) (by assumption) ?_
    · intro v hSv
      obtain ⟨q0, q1, q2, q3, q4, q5, q6, q7, q8, q9, q10, q11, q12, q13, q14, q15, q16, q17, q18, q19, q20, q21, q22, q23, q24, q25, q26, q27, q28, q29, q30, q31⟩ := hSv
      go_simp
    try simp only [Act.put, List.setIfInBounds_toArray, List.set_cons_zero, List.set_cons_succ]
    refine wpAnyH_take (i := 19) (v := .agg #[.int .u8 c.b0, .int .u8 c.b1, .int .u8 c.b2, .int .u8 c.b3, .int .u8 c.b4, .int .u8 c.b5, .int .u8 c.b6, .int .u8 c.b7]) (at_list rfl) (by kernel_rfl) (by kernel_rfl) (by kernel_rfl) (fun _ _ _ h => h) (Or.inl ⟨by rfl, ?_⟩) (by assumption) ?_
    · intro v hSv
      obtain ⟨q0, q1, q2, q3, q4, q5, q6, q7, q8, q9, q10, q11, q12, q13, q14, q15, q16, q17, q18, q19, q20, q21, q22, q23, q24, q25, q26, q27, q28, q29, q30, q31⟩ := hSv
      go_simp
    try simp only [Act.put, List.setIfInBounds_toArray, List.set_cons_zero, List.set_cons_succ]
    refine wpAnyH_take (i := 20) (v := .agg #[.int .u8 c.b0, .int .u8 c.b1, .int .u8 c.b2, .int .u8 c.b3, .int .u8 c.b4, .int .u8 c.b5, .int .u8 c.b6, .int .u8 c.b7]) (at_list rfl) (by kernel_rfl) (by kernel_rfl) (by kernel_rfl) (fun _ _ _ h => h) (Or.inl ⟨by rfl, ?_⟩) (by assumption) ?_
    · intro v hSv
      obtain ⟨q0, q1, q2, q3, q4, q5, q6, q7, q8, q9, q10, q11, q12, q13, q14, q15, q16, q17, q18, q19, q20, q21, q22, q23, q24, q25, q26, q27, q28, q29, q30, q31⟩ := hSv
      go_simp
    try simp only [Act.put, List.setIfInBounds_toArray, List.set_cons_zero, List.set_cons_succ]
    refine wpAnyH_take (i := 21) (v := .bool true) (at_list rfl) (by kernel_rfl) (by kernel_rfl) (by kernel_rfl) (fun _ _ _ h => h) (Or.inl ⟨by rfl, ?_⟩) (by assumption) ?_
    · intro v hSv
      obtain ⟨q0, q1, q2, q3, q4, q5, q6, q7, q8, q9, q10, q11, q12, q13, q14, q15, q16, q17, q18, q19, q20, q21, q22, q23, q24, q25, q26, q27, q28, q29, q30, q31⟩ := hSv
      go_simp
    try simp only [Act.put, List.setIfInBounds_toArray, List.set_cons_zero, List.set_cons_succ]
    refine wpAnyH_take (i := 22) (v := .bool true) (at_list rfl) (by kernel_rfl) (by kernel_rfl) (by kernel_rfl) (fun _ _ _ h => h) (Or.inl ⟨by rfl, ?_⟩) (by assumption) ?_
    · intro v hSv
      obtain ⟨q0, q1, q2, q3, q4, q5, q6, q7, q8, q9, q10, q11, q12, q13, q14, q15, q16, q17, q18, q19, q20, q21, q22, q23, q24, q25, q26, q27, q28, q29, q30, q31⟩ := hSv
      go_simp
    try simp only [Act.put, List.setIfInBounds_toArray, List.set_cons_zero, List.set_cons_succ]
    refine wpAnyH_take (i := 23) (v := .bool true) (at_list rfl) (by kernel_rfl) (by kernel_rfl) (by kernel_rfl) (fun _ _ _ h => h) (Or.inl ⟨by rfl, ?_⟩) (by assumption) ?_
    · intro v hSv
      obtain ⟨q0, q1, q2, q3, q4, q5, q6, q7, q8, q9, q10, q11, q12, q13, q14, q15, q16, q17, q18, q19, q20, q21, q22, q23, q24, q25, q26, q27, q28, q29, q30, q31⟩ := hSv
      go_simp
    try simp only [Act.put, List.setIfInBounds_toArray, List.set_cons_zero, List.set_cons_succ]
    refine wpAnyH_take (i := 24) (v := .bool true) (at_list rfl) (by kernel_rfl) (by kernel_rfl) (by kernel_rfl) (fun _ _ _ h => h) (Or.inl ⟨by rfl, ?_⟩) (by assumption) ?_
    · intro v hSv
      obtain ⟨q0, q1, q2, q3, q4, q5, q6, q7, q8, q9, q10, q11, q12, q13, q14, q15, q16, q17, q18, q19, q20, q21, q22, q23, q24, q25, q26, q27, q28, q29, q30, q31⟩ := hSv
      go_simp
    try simp only [Act.put, List.setIfInBounds_toArray, List.set_cons_zero, List.set_cons_succ]
    refine wpAnyH_take (i := 25) (v := .bool true) (at_list rfl) (by kernel_rfl) (by kernel_rfl) (by kernel_rfl) (fun _ _ _ h => h) (Or.inl ⟨by rfl, ?_⟩) (by assumption) ?_
    · intro v hSv
      obtain ⟨q0, q1, q2, q3, q4, q5, q6, q7, q8, q9, q10, q11, q12, q13, q14, q15, q16, q17, q18, q19, q20, q21, q22, q23, q24, q25, q26, q27, q28, q29, q30, q31⟩ := hSv
      go_simp
    try simp only [Act.put, List.setIfInBounds_toArray, List.set_cons_zero, List.set_cons_succ]
    refine wpAnyH_take (i := 26) (v := .bool true) (at_list rfl) (by kernel_rfl) (by kernel_rfl) (by kernel_rfl) (fun _ _ _ h => h) (Or.inl ⟨by rfl, ?_⟩) (by assumption) ?_
    · intro v hSv
      obtain ⟨q0, q1, q2, q3, q4, q5, q6, q7, q8, q9, q10, q11, q12, q13, q14, q15, q16, q17, q18, q19, q20, q21, q22, q23, q24, q25, q26, q27, q28, q29, q30, q31⟩ := hSv
      go_simp
    try simp only [Act.put, List.setIfInBounds_toArray, List.set_cons_zero, List.set_cons_succ]
    refine wpAnyH_take (i := 27) (v := .bool false) (at_list rfl) (by kernel_rfl) (by kernel_rfl) (by kernel_rfl) (fun _ _ _ h => h) (Or.inl ⟨by rfl, ?_⟩) (by assumption) ?_
    · intro v hSv
      obtain ⟨q0, q1, q2, q3, q4, q5, q6, q7, q8, q9, q10, q11, q12, q13, q14, q15, q16, q17, q18, q19, q20, q21, q22, q23, q24, q25, q26, q27, q28, q29, q30, q31⟩ := hSv
      go_simp
    try simp only [Act.put, List.setIfInBounds_toArray, List.set_cons_zero, List.set_cons_succ]
    refine wpAnyH_take (i := 28) (v := .bool true) (at_list rfl) (by kernel_rfl) (by kernel_rfl) (by kernel_rfl) (fun _ _ _ h => h) (Or.inl ⟨by rfl, ?_⟩) (by assumption) ?_
    · intro v hSv
      obtain ⟨q0, q1, q2, q3, q4, q5, q6, q7, q8, q9, q10, q11, q12, q13, q14, q15, q16, q17, q18, q19, q20, q21, q22, q23, q24, q25, q26, q27, q28, q29, q30, q31⟩ := hSv
      go_simp
    try simp only [Act.put, List.setIfInBounds_toArray, List.set_cons_zero, List.set_cons_succ]
    refine wpAnyH_take (i := 29) (v := .bool true) (at_list rfl) (by kernel_rfl) (by kernel_rfl) (by kernel_rfl) (fun _ _ _ h => h) (Or.inl ⟨by rfl, ?_⟩) (by assumption) ?_
    · intro v hSv
      obtain ⟨q0, q1, q2, q3, q4, q5, q6, q7, q8, q9, q10, q11, q12, q13, q14, q15, q16, q17, q18, q19, q20, q21, q22, q23, q24, q25, q26, q27, q28, q29, q30, q31⟩ := hSv
      go_simp
    try simp only [Act.put, List.setIfInBounds_toArray, List.set_cons_zero, List.set_cons_succ]
    refine wpAnyH_take (i := 30) (v := undef) (at_list rfl) (by kernel_rfl) (by kernel_rfl) (by kernel_rfl) (fun _ _ _ h => h) (Or.inr ⟨by rfl, rfl⟩) (by assumption) ?_
    try simp only [Act.put, List.setIfInBounds_toArray, List.set_cons_zero, List.set_cons_succ]
    refine wpAnyH_take (i := 31) (v := undef) (at_list rfl) (by kernel_rfl) (by kernel_rfl) (by kernel_rfl) (fun _ _ _ h => h) (Or.inr ⟨by rfl, rfl⟩) (by assumption) ?_
    try simp only [Act.put, List.setIfInBounds_toArray, List.set_cons_zero, List.set_cons_succ]
    refine wpAnyH_take (i := 32) (v := undef) (at_list rfl) (by kernel_rfl) (by kernel_rfl) (by kernel_rfl) (fun _ _ _ h => h) (Or.inr ⟨by rfl, rfl⟩) (by assumption) ?_
    try simp only [Act.put, List.setIfInBounds_toArray, List.set_cons_zero, List.set_cons_succ]
    refine wpAnyH_take (i := 33) (v := undef) (at_list rfl) (by kernel_rfl) (by kernel_rfl) (by kernel_rfl) (fun _ _ _ h => h) (Or.inr ⟨by rfl, rfl⟩) (by assumption) ?_
    try simp only [Act.put, List.setIfInBounds_toArray, List.set_cons_zero, List.set_cons_succ]
    refine wpAnyH_take (i := 34) (v := .bool true) (at_list rfl) (by kernel_rfl) (by kernel_rfl) (by kernel_rfl) (fun _ _ _ h => h) (Or.inl ⟨by rfl, ?_⟩) (by assumption) ?_
    · intro v hSv
      obtain ⟨q0, q1, q2, q3, q4, q5, q6, q7, q8, q9, q10, q11, q12, q13, q14, q15, q16, q17, q18, q19, q20, q21, q22, q23, q24, q25, q26, q27, q28, q29, q30, q31⟩ := hSv
      go_simp
    try simp only [Act.put, List.setIfInBounds_toArray, List.set_cons_zero, List.set_cons_succ]
    refine wpAnyH_take (i := 35) (v := .bool true) (at_list rfl) (by kernel_rfl) (by kernel_rfl) (by kernel_rfl) (fun _ _ _ h => h) (Or.inl ⟨by rfl, ?_⟩) (by assumption) ?_
    · intro v hSv
      obtain ⟨q0, q1, q2, q3, q4, q5, q6, q7, q8, q9, q10, q11, q12, q13, q14, q15, q16, q17, q18, q19, q20, q21, q22, q23, q24, q25, q26, q27, q28, q29, q30, q31⟩ := hSv
      go_simp
    try simp only [Act.put, List.setIfInBounds_toArray, List.set_cons_zero, List.set_cons_succ]
    refine wpAnyH_take (i := 36) (v := .bool true) (at_list rfl) (by kernel_rfl) (by kernel_rfl) (by kernel_rfl) (fun _ _ _ h => h) (Or.inl ⟨by rfl, ?_⟩) (by assumption) ?_
    · intro v hSv
      obtain ⟨q0, q1, q2, q3, q4, q5, q6, q7, q8, q9, q10, q11, q12, q13, q14, q15, q16, q17, q18, q19, q20, q21, q22, q23, q24, q25, q26, q27, q28, q29, q30, q31⟩ := hSv
      go_simp
    try simp only [Act.put, List.setIfInBounds_toArray, List.set_cons_zero, List.set_cons_succ]
    refine wpAnyH_done (by kernel_rfl) ?_ _
    have HV11 := Lib.hid (bstep (bstep (bstep (bdrew (Below.refl (V9).heap.size V9)) hv10_0) hv10_4) hv10_5)
    clear x6_0 x6_1 x6_2 x6_3 x6_4 x6_5 x6_6 x6_7 x7_0 x7_1 x7_2 x7_3 x7_4 x7_5 x7_6 x7_7 x8_0 x8_1 x8_2 x8_3 x8_4 x8_5 x8_6 x8_7 x9_0 x9_1 x9_2 x9_3 x9_4 x9_5 x9_6 x9_7
    replace K2 := Lib.hid ((K2.out).keptB HV11.out)
    replace K5 := Lib.hid ((K5.out).keptB HV11.out)
    replace K7 := Lib.hid ((K7.out).keptB HV11.out)
    replace K9 := Lib.hid ((K9.out).keptB HV11.out)
    replace HB := Lib.hid (bstep HB.out HV11.out)
    clear hv10_0 hv10_4 hv10_5 HV11
    go_wp2
    go_ret
    exact ⟨rfl, HB.out⟩
  · have C1 : Hid (∀ v, Calls Try.prog 16 #[.string s] v fun e w' => e = .returned (.tuple #[.agg #[.int .u8 d.b0, .int .u8 d.b1, .int .u8 d.b2, .int .u8 d.b3, .int .u8 d.b4, .int .u8 d.b5, .int .u8 d.b6, .int .u8 d.b7], .bool true]) ∧ Below v.heap.size v w') := by
      intro v
      have h := idread_any s v hm
      rw [hB, Hd.out] at h
      exact h
    have C2 : Hid (∀ v, Calls Try.prog 17 #[.string s] v fun e w' => e = .returned (.tuple #[.agg #[.int .u8 d.b0, .int .u8 d.b1, .int .u8 d.b2, .int .u8 d.b3, .int .u8 d.b4, .int .u8 d.b5, .int .u8 d.b6, .int .u8 d.b7], .bool true]) ∧ Below v.heap.size v w') := by
      intro v
      have h := ridread_any s v hm
      rw [hB, Hd.out] at h
      exact h
    have C6 : Hid (∀ v, Calls Try.prog 18 #[.agg #[.int .u8 d.b0, .int .u8 d.b1, .int .u8 d.b2, .int .u8 d.b3, .int .u8 d.b4, .int .u8 d.b5, .int .u8 d.b6, .int .u8 d.b7]] v fun e w' => e = .returned (.string s) ∧ Below v.heap.size v w') := by
      intro v
      have h := text_any (rdC (strL s)) (rdC_ok _) v
      rw [hex_rd hB, str_strL, Hd.out] at h
      exact h
    clear hc hm hB
    have K2 := Lib.hid (Holds.fresh w 23 #[.int .u8 c.b0, .int .u8 c.b1, .int .u8 c.b2, .int .u8 c.b3, .int .u8 c.b4, .int .u8 c.b5, .int .u8 c.b6, .int .u8 c.b7] (g := w.heap.size) (by simp))
    have HB := Lib.hid (bnew w (.cells #[.int .u8 c.b0, .int .u8 c.b1, .int .u8 c.b2, .int .u8 c.b3, .int .u8 c.b4, .int .u8 c.b5, .int .u8 c.b6, .int .u8 c.b7] 23))
    go_enter Try.func4, Try.ntmps4
    go_wp2_with fail
    generalize (w.alloc (.cells #[.int .u8 c.b0, .int .u8 c.b1, .int .u8 c.b2, .int .u8 c.b3, .int .u8 c.b4, .int .u8 c.b5, .int .u8 c.b6, .int .u8 c.b7] 23)) = W0 at *
    refine (C1.out _).mono ?_
    rintro e w1 ⟨rfl, hw1⟩
    replace K2 := Lib.hid ((K2.out).keptB hw1)
    replace HB := Lib.hid (bstep HB.out hw1)
    clear hw1
    replace K2 := Lib.hid ((K2.out).laid (.cells #[.int .u8 d.b0, .int .u8 d.b1, .int .u8 d.b2, .int .u8 d.b3, .int .u8 d.b4, .int .u8 d.b5, .int .u8 d.b6, .int .u8 d.b7] 23))
    have K5 := Lib.hid (Holds.fresh w1 23 #[.int .u8 d.b0, .int .u8 d.b1, .int .u8 d.b2, .int .u8 d.b3, .int .u8 d.b4, .int .u8 d.b5, .int .u8 d.b6, .int .u8 d.b7] (g := (w1).heap.size) rfl)
    replace HB := Lib.hid (bstep HB.out (bnew _ (.cells #[.int .u8 d.b0, .int .u8 d.b1, .int .u8 d.b2, .int .u8 d.b3, .int .u8 d.b4, .int .u8 d.b5, .int .u8 d.b6, .int .u8 d.b7] 23)))
    go_wp2_with fail
    refine (C2.out _).mono ?_
    rintro e w2 ⟨rfl, hw2⟩
    replace K2 := Lib.hid ((K2.out).keptB hw2)
    replace K5 := Lib.hid ((K5.out).keptB hw2)
    replace HB := Lib.hid (bstep HB.out hw2)
    clear hw2
    replace K2 := Lib.hid ((K2.out).laid (.cells #[.int .u8 d.b0, .int .u8 d.b1, .int .u8 d.b2, .int .u8 d.b3, .int .u8 d.b4, .int .u8 d.b5, .int .u8 d.b6, .int .u8 d.b7] 23))
    replace K5 := Lib.hid ((K5.out).laid (.cells #[.int .u8 d.b0, .int .u8 d.b1, .int .u8 d.b2, .int .u8 d.b3, .int .u8 d.b4, .int .u8 d.b5, .int .u8 d.b6, .int .u8 d.b7] 23))
    have K7 := Lib.hid (Holds.fresh w2 23 #[.int .u8 d.b0, .int .u8 d.b1, .int .u8 d.b2, .int .u8 d.b3, .int .u8 d.b4, .int .u8 d.b5, .int .u8 d.b6, .int .u8 d.b7] (g := (w2).heap.size) rfl)
    replace HB := Lib.hid (bstep HB.out (bnew _ (.cells #[.int .u8 d.b0, .int .u8 d.b1, .int .u8 d.b2, .int .u8 d.b3, .int .u8 d.b4, .int .u8 d.b5, .int .u8 d.b6, .int .u8 d.b7] 23)))
    have x3_0 := (K2.out).reads (i := 0) rfl
    have x3_1 := (K2.out).reads (i := 1) rfl
    have x3_2 := (K2.out).reads (i := 2) rfl
    have x3_3 := (K2.out).reads (i := 3) rfl
    have x3_4 := (K2.out).reads (i := 4) rfl
    have x3_5 := (K2.out).reads (i := 5) rfl
    have x3_6 := (K2.out).reads (i := 6) rfl
    have x3_7 := (K2.out).reads (i := 7) rfl
    go_wp2_with fail
    refine (C3.out _).mono ?_
    rintro e w4 ⟨rfl, hw4⟩
    clear x3_0 x3_1 x3_2 x3_3 x3_4 x3_5 x3_6 x3_7
    replace K2 := Lib.hid ((K2.out).keptB hw4)
    replace K5 := Lib.hid ((K5.out).keptB hw4)
    replace K7 := Lib.hid ((K7.out).keptB hw4)
    replace HB := Lib.hid (bstep HB.out hw4)
    clear hw4
    go_wp2_with fail
    refine (C5.out _).mono ?_
    rintro e w5 ⟨rfl, hw5⟩
    replace K2 := Lib.hid ((K2.out).keptB hw5)
    replace K5 := Lib.hid ((K5.out).keptB hw5)
    replace K7 := Lib.hid ((K7.out).keptB hw5)
    replace HB := Lib.hid (bstep HB.out hw5)
    clear hw5
    replace K2 := Lib.hid ((K2.out).laid (.cells #[.int .u8 c.b0, .int .u8 c.b1, .int .u8 c.b2, .int .u8 c.b3, .int .u8 c.b4, .int .u8 c.b5, .int .u8 c.b6, .int .u8 c.b7] 23))
    replace K5 := Lib.hid ((K5.out).laid (.cells #[.int .u8 c.b0, .int .u8 c.b1, .int .u8 c.b2, .int .u8 c.b3, .int .u8 c.b4, .int .u8 c.b5, .int .u8 c.b6, .int .u8 c.b7] 23))
    replace K7 := Lib.hid ((K7.out).laid (.cells #[.int .u8 c.b0, .int .u8 c.b1, .int .u8 c.b2, .int .u8 c.b3, .int .u8 c.b4, .int .u8 c.b5, .int .u8 c.b6, .int .u8 c.b7] 23))
    have K9 := Lib.hid (Holds.fresh w5 23 #[.int .u8 c.b0, .int .u8 c.b1, .int .u8 c.b2, .int .u8 c.b3, .int .u8 c.b4, .int .u8 c.b5, .int .u8 c.b6, .int .u8 c.b7] (g := (w5).heap.size) rfl)
    replace HB := Lib.hid (bstep HB.out (bnew _ (.cells #[.int .u8 c.b0, .int .u8 c.b1, .int .u8 c.b2, .int .u8 c.b3, .int .u8 c.b4, .int .u8 c.b5, .int .u8 c.b6, .int .u8 c.b7] 23)))
    go_wp2_with fail
    obtain ⟨g5, hg5⟩ : ∃ g, (w1).heap.size = g := ⟨_, rfl⟩
    rw [hg5] at K5 ⊢
    clear hg5
    obtain ⟨g7, hg7⟩ : ∃ g, (w2).heap.size = g := ⟨_, rfl⟩
    rw [hg7] at K7 ⊢
    clear hg7
    obtain ⟨g9, hg9⟩ : ∃ g, (w5).heap.size = g := ⟨_, rfl⟩
    rw [hg9] at K9 ⊢
    clear hg9
    generalize (w5.alloc (.cells #[.int .u8 c.b0, .int .u8 c.b1, .int .u8 c.b2, .int .u8 c.b3, .int .u8 c.b4, .int .u8 c.b5, .int .u8 c.b6, .int .u8 c.b7] 23)) = V9 at *
    have hq1 := HQ1.out
    have hq2 := HQ2.out
    have x6_0 := (K2.out).reads (i := 0) rfl
    have x6_1 := (K2.out).reads (i := 1) rfl
    have x6_2 := (K2.out).reads (i := 2) rfl
    have x6_3 := (K2.out).reads (i := 3) rfl
    have x6_4 := (K2.out).reads (i := 4) rfl
    have x6_5 := (K2.out).reads (i := 5) rfl
    have x6_6 := (K2.out).reads (i := 6) rfl
    have x6_7 := (K2.out).reads (i := 7) rfl
    have x7_0 := (K5.out).reads (i := 0) rfl
    have x7_1 := (K5.out).reads (i := 1) rfl
    have x7_2 := (K5.out).reads (i := 2) rfl
    have x7_3 := (K5.out).reads (i := 3) rfl
    have x7_4 := (K5.out).reads (i := 4) rfl
    have x7_5 := (K5.out).reads (i := 5) rfl
    have x7_6 := (K5.out).reads (i := 6) rfl
    have x7_7 := (K5.out).reads (i := 7) rfl
    have x8_0 := (K7.out).reads (i := 0) rfl
    have x8_1 := (K7.out).reads (i := 1) rfl
    have x8_2 := (K7.out).reads (i := 2) rfl
    have x8_3 := (K7.out).reads (i := 3) rfl
    have x8_4 := (K7.out).reads (i := 4) rfl
    have x8_5 := (K7.out).reads (i := 5) rfl
    have x8_6 := (K7.out).reads (i := 6) rfl
    have x8_7 := (K7.out).reads (i := 7) rfl
    have x9_0 := (K9.out).reads (i := 0) rfl
    have x9_1 := (K9.out).reads (i := 1) rfl
    have x9_2 := (K9.out).reads (i := 2) rfl
    have x9_3 := (K9.out).reads (i := 3) rfl
    have x9_4 := (K9.out).reads (i := 4) rfl
    have x9_5 := (K9.out).reads (i := 5) rfl
    have x9_6 := (K9.out).reads (i := 6) rfl
    have x9_7 := (K9.out).reads (i := 7) rfl
    go_region_held3 (fun v => v.cell? ⟨w.heap.size, 0, none⟩ = some (.int .u8 c.b0) ∧ v.cell? ⟨w.heap.size, 1, none⟩ = some (.int .u8 c.b1) ∧ v.cell? ⟨w.heap.size, 2, none⟩ = some (.int .u8 c.b2) ∧ v.cell? ⟨w.heap.size, 3, none⟩ = some (.int .u8 c.b3) ∧ v.cell? ⟨w.heap.size, 4, none⟩ = some (.int .u8 c.b4) ∧ v.cell? ⟨w.heap.size, 5, none⟩ = some (.int .u8 c.b5) ∧ v.cell? ⟨w.heap.size, 6, none⟩ = some (.int .u8 c.b6) ∧ v.cell? ⟨w.heap.size, 7, none⟩ = some (.int .u8 c.b7) ∧ v.cell? ⟨g5, 0, none⟩ = some (.int .u8 d.b0) ∧ v.cell? ⟨g5, 1, none⟩ = some (.int .u8 d.b1) ∧ v.cell? ⟨g5, 2, none⟩ = some (.int .u8 d.b2) ∧ v.cell? ⟨g5, 3, none⟩ = some (.int .u8 d.b3) ∧ v.cell? ⟨g5, 4, none⟩ = some (.int .u8 d.b4) ∧ v.cell? ⟨g5, 5, none⟩ = some (.int .u8 d.b5) ∧ v.cell? ⟨g5, 6, none⟩ = some (.int .u8 d.b6) ∧ v.cell? ⟨g5, 7, none⟩ = some (.int .u8 d.b7) ∧ v.cell? ⟨g7, 0, none⟩ = some (.int .u8 d.b0) ∧ v.cell? ⟨g7, 1, none⟩ = some (.int .u8 d.b1) ∧ v.cell? ⟨g7, 2, none⟩ = some (.int .u8 d.b2) ∧ v.cell? ⟨g7, 3, none⟩ = some (.int .u8 d.b3) ∧ v.cell? ⟨g7, 4, none⟩ = some (.int .u8 d.b4) ∧ v.cell? ⟨g7, 5, none⟩ = some (.int .u8 d.b5) ∧ v.cell? ⟨g7, 6, none⟩ = some (.int .u8 d.b6) ∧ v.cell? ⟨g7, 7, none⟩ = some (.int .u8 d.b7) ∧ v.cell? ⟨g9, 0, none⟩ = some (.int .u8 c.b0) ∧ v.cell? ⟨g9, 1, none⟩ = some (.int .u8 c.b1) ∧ v.cell? ⟨g9, 2, none⟩ = some (.int .u8 c.b2) ∧ v.cell? ⟨g9, 3, none⟩ = some (.int .u8 c.b3) ∧ v.cell? ⟨g9, 4, none⟩ = some (.int .u8 c.b4) ∧ v.cell? ⟨g9, 5, none⟩ = some (.int .u8 c.b5) ∧ v.cell? ⟨g9, 6, none⟩ = some (.int .u8 c.b6) ∧ v.cell? ⟨g9, 7, none⟩ = some (.int .u8 c.b7))
      (first | (with_reducible exact keep32 (by assumption) (by assumption)) | (with_reducible exact keep32 (bnew _ _) (by assumption)) | (exact ⟨x6_0, x6_1, x6_2, x6_3, x6_4, x6_5, x6_6, x6_7, x7_0, x7_1, x7_2, x7_3, x7_4, x7_5, x7_6, x7_7, x8_0, x8_1, x8_2, x8_3, x8_4, x8_5, x8_6, x8_7, x9_0, x9_1, x9_2, x9_3, x9_4, x9_5, x9_6, x9_7⟩) | go_keep)
      (first
        | (go_at_call 14; (with_reducible refine (alive4_any _).mono ?_); rintro e v10_0 ⟨rfl, hv10_0⟩)
        | (go_at_call 18; (with_reducible refine (C3.out _).mono ?_); rintro e v10_1 ⟨rfl, hv10_1⟩)
        | (go_at_call 19; (with_reducible refine (C4.out _).mono ?_); rintro e v10_2 ⟨rfl, hv10_2⟩)
        | (go_at_call 18; (with_reducible refine (C6.out _).mono ?_); rintro e v10_3 ⟨rfl, hv10_3⟩))
    have HV11 := Lib.hid (bstep (bstep (bstep (bstep (bdrew (Below.refl (V9).heap.size V9)) hv10_0) hv10_1) hv10_2) hv10_3)
    clear x6_0 x6_1 x6_2 x6_3 x6_4 x6_5 x6_6 x6_7 x7_0 x7_1 x7_2 x7_3 x7_4 x7_5 x7_6 x7_7 x8_0 x8_1 x8_2 x8_3 x8_4 x8_5 x8_6 x8_7 x9_0 x9_1 x9_2 x9_3 x9_4 x9_5 x9_6 x9_7
    replace K2 := Lib.hid ((K2.out).keptB HV11.out)
    replace K5 := Lib.hid ((K5.out).keptB HV11.out)
    replace K7 := Lib.hid ((K7.out).keptB HV11.out)
    replace K9 := Lib.hid ((K9.out).keptB HV11.out)
    replace HB := Lib.hid (bstep HB.out HV11.out)
    clear hv10_0 hv10_1 hv10_2 hv10_3 HV11
    go_wp2
    go_ret
    exact ⟨rfl, HB.out⟩

end Go.Proofs.Ytbiglmpibdlhmaa
