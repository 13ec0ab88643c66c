/- The walk over the law IdentThree. -/
import Derived.Test.YtbiglmpibdlhmaaIdentAlive
namespace Go.Proofs.Ytbiglmpibdlhmaa
open Go.RowKit
set_option linter.unusedVariables false

set_option maxRecDepth 100000 in
set_option maxHeartbeats 4000000 in
theorem three4_walk (a b c : Pt) (ha : a.c.ok) (hb : b.c.ok) (hc : c.c.ok) (w : World) :
    Calls Try.prog 7 #[.agg #[.int .u8 a.c.b0, .int .u8 a.c.b1, .int .u8 a.c.b2, .int .u8 a.c.b3, .int .u8 a.c.b4, .int .u8 a.c.b5, .int .u8 a.c.b6, .int .u8 a.c.b7, .int .i64 a.n], .agg #[.int .u8 b.c.b0, .int .u8 b.c.b1, .int .u8 b.c.b2, .int .u8 b.c.b3, .int .u8 b.c.b4, .int .u8 b.c.b5, .int .u8 b.c.b6, .int .u8 b.c.b7, .int .i64 b.n], .agg #[.int .u8 c.c.b0, .int .u8 c.c.b1, .int .u8 c.c.b2, .int .u8 c.c.b3, .int .u8 c.c.b4, .int .u8 c.c.b5, .int .u8 c.c.b6, .int .u8 c.c.b7, .int .i64 c.n]] w fun e w' => e = .returned (.bool true) ∧ Below w.heap.size w w' := by
  obtain ⟨m1, Hm1⟩ : ∃ m1, Hid (cmpP a b = m1) := ⟨_, Lib.hid rfl⟩
  obtain ⟨m2, Hm2⟩ : ∃ m2, Hid (cmpP b c = m2) := ⟨_, Lib.hid rfl⟩
  obtain ⟨m3, Hm3⟩ : ∃ m3, Hid (cmpP a c = m3) := ⟨_, Lib.hid rfl⟩
  have C1 : Hid (∀ v, Calls Try.prog 11 #[.agg #[.int .u8 a.c.b0, .int .u8 a.c.b1, .int .u8 a.c.b2, .int .u8 a.c.b3, .int .u8 a.c.b4, .int .u8 a.c.b5, .int .u8 a.c.b6, .int .u8 a.c.b7, .int .i64 a.n], .agg #[.int .u8 b.c.b0, .int .u8 b.c.b1, .int .u8 b.c.b2, .int .u8 b.c.b3, .int .u8 b.c.b4, .int .u8 b.c.b5, .int .u8 b.c.b6, .int .u8 b.c.b7, .int .i64 b.n]] v fun e w' => e = .returned (.int .i64 m1) ∧ Below v.heap.size v w') := by rw [← Hm1.out]; exact fun v => ports_any a b v ha hb
  have C2 : Hid (∀ v, Calls Try.prog 11 #[.agg #[.int .u8 b.c.b0, .int .u8 b.c.b1, .int .u8 b.c.b2, .int .u8 b.c.b3, .int .u8 b.c.b4, .int .u8 b.c.b5, .int .u8 b.c.b6, .int .u8 b.c.b7, .int .i64 b.n], .agg #[.int .u8 c.c.b0, .int .u8 c.c.b1, .int .u8 c.c.b2, .int .u8 c.c.b3, .int .u8 c.c.b4, .int .u8 c.c.b5, .int .u8 c.c.b6, .int .u8 c.c.b7, .int .i64 c.n]] v fun e w' => e = .returned (.int .i64 m2) ∧ Below v.heap.size v w') := by rw [← Hm2.out]; exact fun v => ports_any b c v hb hc
  have C3 : Hid (∀ v, Calls Try.prog 11 #[.agg #[.int .u8 a.c.b0, .int .u8 a.c.b1, .int .u8 a.c.b2, .int .u8 a.c.b3, .int .u8 a.c.b4, .int .u8 a.c.b5, .int .u8 a.c.b6, .int .u8 a.c.b7, .int .i64 a.n], .agg #[.int .u8 c.c.b0, .int .u8 c.c.b1, .int .u8 c.c.b2, .int .u8 c.c.b3, .int .u8 c.c.b4, .int .u8 c.c.b5, .int .u8 c.c.b6, .int .u8 c.c.b7, .int .i64 c.n]] v fun e w' => e = .returned (.int .i64 m3) ∧ Below v.heap.size v w') := by rw [← Hm3.out]; exact fun v => ports_any a c v ha hc
  have heq := eql_port
  have HT : Hid (m1 ≤ 0 → m2 ≤ 0 → m3 ≤ 0 ∧ (m3 < 0 ∨ (eqP a b = true ∧ eqP b c = true))) := by
    intro h1 h2
    rw [← Hm1.out] at h1
    rw [← Hm2.out] at h2
    have := cmpP_trans ha hb hc h1 h2
    rw [Hm3.out, ← eqP_iff, ← eqP_iff] at this
    exact this
  clear ha hb hc
  have K3 := Lib.hid (Holds.fresh w 25 #[.int .u8 a.c.b0, .int .u8 a.c.b1, .int .u8 a.c.b2, .int .u8 a.c.b3, .int .u8 a.c.b4, .int .u8 a.c.b5, .int .u8 a.c.b6, .int .u8 a.c.b7, .int .i64 a.n] (g := w.heap.size) (by simp))
  replace K3 := Lib.hid ((K3.out).laid (.cells #[.int .u8 b.c.b0, .int .u8 b.c.b1, .int .u8 b.c.b2, .int .u8 b.c.b3, .int .u8 b.c.b4, .int .u8 b.c.b5, .int .u8 b.c.b6, .int .u8 b.c.b7, .int .i64 b.n] 25))
  replace K3 := Lib.hid ((K3.out).laid (.cells #[.int .u8 c.c.b0, .int .u8 c.c.b1, .int .u8 c.c.b2, .int .u8 c.c.b3, .int .u8 c.c.b4, .int .u8 c.c.b5, .int .u8 c.c.b6, .int .u8 c.c.b7, .int .i64 c.n] 25))
  have K4 := Lib.hid (Holds.fresh (w.alloc (.cells #[.int .u8 a.c.b0, .int .u8 a.c.b1, .int .u8 a.c.b2, .int .u8 a.c.b3, .int .u8 a.c.b4, .int .u8 a.c.b5, .int .u8 a.c.b6, .int .u8 a.c.b7, .int .i64 a.n] 25)) 25 #[.int .u8 b.c.b0, .int .u8 b.c.b1, .int .u8 b.c.b2, .int .u8 b.c.b3, .int .u8 b.c.b4, .int .u8 b.c.b5, .int .u8 b.c.b6, .int .u8 b.c.b7, .int .i64 b.n] (g := w.heap.size + 1) (by simp))
  replace K4 := Lib.hid ((K4.out).laid (.cells #[.int .u8 c.c.b0, .int .u8 c.c.b1, .int .u8 c.c.b2, .int .u8 c.c.b3, .int .u8 c.c.b4, .int .u8 c.c.b5, .int .u8 c.c.b6, .int .u8 c.c.b7, .int .i64 c.n] 25))
  have K5 := Lib.hid (Holds.fresh ((w.alloc (.cells #[.int .u8 a.c.b0, .int .u8 a.c.b1, .int .u8 a.c.b2, .int .u8 a.c.b3, .int .u8 a.c.b4, .int .u8 a.c.b5, .int .u8 a.c.b6, .int .u8 a.c.b7, .int .i64 a.n] 25)).alloc (.cells #[.int .u8 b.c.b0, .int .u8 b.c.b1, .int .u8 b.c.b2, .int .u8 b.c.b3, .int .u8 b.c.b4, .int .u8 b.c.b5, .int .u8 b.c.b6, .int .u8 b.c.b7, .int .i64 b.n] 25)) 25 #[.int .u8 c.c.b0, .int .u8 c.c.b1, .int .u8 c.c.b2, .int .u8 c.c.b3, .int .u8 c.c.b4, .int .u8 c.c.b5, .int .u8 c.c.b6, .int .u8 c.c.b7, .int .i64 c.n] (g := w.heap.size + 1 + 1) (by simp))
  have HB := Lib.hid (bstep (bstep (bnew w (.cells #[.int .u8 a.c.b0, .int .u8 a.c.b1, .int .u8 a.c.b2, .int .u8 a.c.b3, .int .u8 a.c.b4, .int .u8 a.c.b5, .int .u8 a.c.b6, .int .u8 a.c.b7, .int .i64 a.n] 25)) (bnew _ (.cells #[.int .u8 b.c.b0, .int .u8 b.c.b1, .int .u8 b.c.b2, .int .u8 b.c.b3, .int .u8 b.c.b4, .int .u8 b.c.b5, .int .u8 b.c.b6, .int .u8 b.c.b7, .int .i64 b.n] 25))) (bnew _ (.cells #[.int .u8 c.c.b0, .int .u8 c.c.b1, .int .u8 c.c.b2, .int .u8 c.c.b3, .int .u8 c.c.b4, .int .u8 c.c.b5, .int .u8 c.c.b6, .int .u8 c.c.b7, .int .i64 c.n] 25)))
  go_enter Try.func7, Try.ntmps7
  go_wp2_with fail
  generalize (((w.alloc (.cells #[.int .u8 a.c.b0, .int .u8 a.c.b1, .int .u8 a.c.b2, .int .u8 a.c.b3, .int .u8 a.c.b4, .int .u8 a.c.b5, .int .u8 a.c.b6, .int .u8 a.c.b7, .int .i64 a.n] 25)).alloc (.cells #[.int .u8 b.c.b0, .int .u8 b.c.b1, .int .u8 b.c.b2, .int .u8 b.c.b3, .int .u8 b.c.b4, .int .u8 b.c.b5, .int .u8 b.c.b6, .int .u8 b.c.b7, .int .i64 b.n] 25)).alloc (.cells #[.int .u8 c.c.b0, .int .u8 c.c.b1, .int .u8 c.c.b2, .int .u8 c.c.b3, .int .u8 c.c.b4, .int .u8 c.c.b5, .int .u8 c.c.b6, .int .u8 c.c.b7, .int .i64 c.n] 25)) = W0 at *
  have x1_0 := (K3.out).reads (i := 0) rfl
  have x1_1 := (K3.out).reads (i := 1) rfl
  have x1_2 := (K3.out).reads (i := 2) rfl
  have x1_3 := (K3.out).reads (i := 3) rfl
  have x1_4 := (K3.out).reads (i := 4) rfl
  have x1_5 := (K3.out).reads (i := 5) rfl
  have x1_6 := (K3.out).reads (i := 6) rfl
  have x1_7 := (K3.out).reads (i := 7) rfl
  have x1_8 := (K3.out).reads (i := 8) rfl
  have x2_0 := (K4.out).reads (i := 0) rfl
  have x2_1 := (K4.out).reads (i := 1) rfl
  have x2_2 := (K4.out).reads (i := 2) rfl
  have x2_3 := (K4.out).reads (i := 3) rfl
  have x2_4 := (K4.out).reads (i := 4) rfl
  have x2_5 := (K4.out).reads (i := 5) rfl
  have x2_6 := (K4.out).reads (i := 6) rfl
  have x2_7 := (K4.out).reads (i := 7) rfl
  have x2_8 := (K4.out).reads (i := 8) rfl
  refine (C1.out _).mono ?_
  rintro e w3 ⟨rfl, hw3⟩
  clear x1_0 x1_1 x1_2 x1_3 x1_4 x1_5 x1_6 x1_7 x1_8 x2_0 x2_1 x2_2 x2_3 x2_4 x2_5 x2_6 x2_7 x2_8
  replace K3 := Lib.hid ((K3.out).keptB hw3)
  replace K4 := Lib.hid ((K4.out).keptB hw3)
  replace K5 := Lib.hid ((K5.out).keptB hw3)
  replace HB := Lib.hid (bstep HB.out hw3)
  clear hw3
  by_cases h1 : 0 < m1
  · have d1 : decide (0 < m1) = true := by simpa using h1
    go_wp2_with fail
    refine (alive4_any _).mono ?_
    rintro e w4 ⟨rfl, hw4⟩
    replace K3 := Lib.hid ((K3.out).keptB hw4)
    replace K4 := Lib.hid ((K4.out).keptB hw4)
    replace K5 := Lib.hid ((K5.out).keptB hw4)
    replace HB := Lib.hid (bstep HB.out hw4)
    clear hw4
    go_wp2
    go_ret
    exact ⟨rfl, HB.out⟩
  · have d1 : decide (0 < m1) = false := by simpa using h1
    have x4_0 := (K4.out).reads (i := 0) rfl
    have x4_1 := (K4.out).reads (i := 1) rfl
    have x4_2 := (K4.out).reads (i := 2) rfl
    have x4_3 := (K4.out).reads (i := 3) rfl
    have x4_4 := (K4.out).reads (i := 4) rfl
    have x4_5 := (K4.out).reads (i := 5) rfl
    have x4_6 := (K4.out).reads (i := 6) rfl
    have x4_7 := (K4.out).reads (i := 7) rfl
    have x4_8 := (K4.out).reads (i := 8) rfl
    have x5_0 := (K5.out).reads (i := 0) rfl
    have x5_1 := (K5.out).reads (i := 1) rfl
    have x5_2 := (K5.out).reads (i := 2) rfl
    have x5_3 := (K5.out).reads (i := 3) rfl
    have x5_4 := (K5.out).reads (i := 4) rfl
    have x5_5 := (K5.out).reads (i := 5) rfl
    have x5_6 := (K5.out).reads (i := 6) rfl
    have x5_7 := (K5.out).reads (i := 7) rfl
    have x5_8 := (K5.out).reads (i := 8) rfl
    go_wp2_with fail
    refine (C2.out _).mono ?_
    rintro e w6 ⟨rfl, hw6⟩
    clear x4_0 x4_1 x4_2 x4_3 x4_4 x4_5 x4_6 x4_7 x4_8 x5_0 x5_1 x5_2 x5_3 x5_4 x5_5 x5_6 x5_7 x5_8
    replace K3 := Lib.hid ((K3.out).keptB hw6)
    replace K4 := Lib.hid ((K4.out).keptB hw6)
    replace K5 := Lib.hid ((K5.out).keptB hw6)
    replace HB := Lib.hid (bstep HB.out hw6)
    clear hw6
    by_cases h2 : 0 < m2
    · have d2 : decide (0 < m2) = true := by simpa using h2
      go_wp2_with fail
      refine (alive4_any _).mono ?_
      rintro e w7 ⟨rfl, hw7⟩
      replace K3 := Lib.hid ((K3.out).keptB hw7)
      replace K4 := Lib.hid ((K4.out).keptB hw7)
      replace K5 := Lib.hid ((K5.out).keptB hw7)
      replace HB := Lib.hid (bstep HB.out hw7)
      clear hw7
      go_wp2
      go_ret
      exact ⟨rfl, HB.out⟩
    · have d2 : decide (0 < m2) = false := by simpa using h2
      obtain ⟨h3, h4⟩ := HT.out (by omega) (by omega)
      have d3 : decide (m3 ≤ 0) = true := by simpa using h3
      go_wp2_with fail
      refine (alive4_any _).mono ?_
      rintro e w7 ⟨rfl, hw7⟩
      replace K3 := Lib.hid ((K3.out).keptB hw7)
      replace K4 := Lib.hid ((K4.out).keptB hw7)
      replace K5 := Lib.hid ((K5.out).keptB hw7)
      replace HB := Lib.hid (bstep HB.out hw7)
      clear hw7
      have x8_0 := (K3.out).reads (i := 0) rfl
      have x8_1 := (K3.out).reads (i := 1) rfl
      have x8_2 := (K3.out).reads (i := 2) rfl
      have x8_3 := (K3.out).reads (i := 3) rfl
      have x8_4 := (K3.out).reads (i := 4) rfl
      have x8_5 := (K3.out).reads (i := 5) rfl
      have x8_6 := (K3.out).reads (i := 6) rfl
      have x8_7 := (K3.out).reads (i := 7) rfl
      have x8_8 := (K3.out).reads (i := 8) rfl
      have x9_0 := (K5.out).reads (i := 0) rfl
      have x9_1 := (K5.out).reads (i := 1) rfl
      have x9_2 := (K5.out).reads (i := 2) rfl
      have x9_3 := (K5.out).reads (i := 3) rfl
      have x9_4 := (K5.out).reads (i := 4) rfl
      have x9_5 := (K5.out).reads (i := 5) rfl
      have x9_6 := (K5.out).reads (i := 6) rfl
      have x9_7 := (K5.out).reads (i := 7) rfl
      have x9_8 := (K5.out).reads (i := 8) rfl
      go_wp2_with fail
      refine (C3.out _).mono ?_
      rintro e w10 ⟨rfl, hw10⟩
      clear x8_0 x8_1 x8_2 x8_3 x8_4 x8_5 x8_6 x8_7 x8_8 x9_0 x9_1 x9_2 x9_3 x9_4 x9_5 x9_6 x9_7 x9_8
      replace K3 := Lib.hid ((K3.out).keptB hw10)
      replace K4 := Lib.hid ((K4.out).keptB hw10)
      replace K5 := Lib.hid ((K5.out).keptB hw10)
      replace HB := Lib.hid (bstep HB.out hw10)
      clear hw10
      have x11_0 := (K3.out).reads (i := 0) rfl
      have x11_1 := (K3.out).reads (i := 1) rfl
      have x11_2 := (K3.out).reads (i := 2) rfl
      have x11_3 := (K3.out).reads (i := 3) rfl
      have x11_4 := (K3.out).reads (i := 4) rfl
      have x11_5 := (K3.out).reads (i := 5) rfl
      have x11_6 := (K3.out).reads (i := 6) rfl
      have x11_7 := (K3.out).reads (i := 7) rfl
      have x11_8 := (K3.out).reads (i := 8) rfl
      have x12_0 := (K5.out).reads (i := 0) rfl
      have x12_1 := (K5.out).reads (i := 1) rfl
      have x12_2 := (K5.out).reads (i := 2) rfl
      have x12_3 := (K5.out).reads (i := 3) rfl
      have x12_4 := (K5.out).reads (i := 4) rfl
      have x12_5 := (K5.out).reads (i := 5) rfl
      have x12_6 := (K5.out).reads (i := 6) rfl
      have x12_7 := (K5.out).reads (i := 7) rfl
      have x12_8 := (K5.out).reads (i := 8) rfl
      go_wp2_with fail
      refine (C3.out _).mono ?_
      rintro e w13 ⟨rfl, hw13⟩
      clear x11_0 x11_1 x11_2 x11_3 x11_4 x11_5 x11_6 x11_7 x11_8 x12_0 x12_1 x12_2 x12_3 x12_4 x12_5 x12_6 x12_7 x12_8
      replace K3 := Lib.hid ((K3.out).keptB hw13)
      replace K4 := Lib.hid ((K4.out).keptB hw13)
      replace K5 := Lib.hid ((K5.out).keptB hw13)
      replace HB := Lib.hid (bstep HB.out hw13)
      clear hw13
      rcases h4 with h4 | ⟨h4, h5⟩
      · have d4 : decide (m3 < 0) = true := by simpa using h4
        go_wp2
        go_ret
        exact ⟨rfl, HB.out⟩
      · by_cases h6 : m3 < 0
        · have d4 : decide (m3 < 0) = true := by simpa using h6
          go_wp2
          go_ret
          exact ⟨rfl, HB.out⟩
        · have d4 : decide (m3 < 0) = false := by simpa using h6
          have x14_0 := (K3.out).reads (i := 0) rfl
          have x14_1 := (K3.out).reads (i := 1) rfl
          have x14_2 := (K3.out).reads (i := 2) rfl
          have x14_3 := (K3.out).reads (i := 3) rfl
          have x14_4 := (K3.out).reads (i := 4) rfl
          have x14_5 := (K3.out).reads (i := 5) rfl
          have x14_6 := (K3.out).reads (i := 6) rfl
          have x14_7 := (K3.out).reads (i := 7) rfl
          have x14_8 := (K3.out).reads (i := 8) rfl
          have x15_0 := (K4.out).reads (i := 0) rfl
          have x15_1 := (K4.out).reads (i := 1) rfl
          have x15_2 := (K4.out).reads (i := 2) rfl
          have x15_3 := (K4.out).reads (i := 3) rfl
          have x15_4 := (K4.out).reads (i := 4) rfl
          have x15_5 := (K4.out).reads (i := 5) rfl
          have x15_6 := (K4.out).reads (i := 6) rfl
          have x15_7 := (K4.out).reads (i := 7) rfl
          have x15_8 := (K4.out).reads (i := 8) rfl
          have x16_0 := (K5.out).reads (i := 0) rfl
          have x16_1 := (K5.out).reads (i := 1) rfl
          have x16_2 := (K5.out).reads (i := 2) rfl
          have x16_3 := (K5.out).reads (i := 3) rfl
          have x16_4 := (K5.out).reads (i := 4) rfl
          have x16_5 := (K5.out).reads (i := 5) rfl
          have x16_6 := (K5.out).reads (i := 6) rfl
          have x16_7 := (K5.out).reads (i := 7) rfl
          have x16_8 := (K5.out).reads (i := 8) rfl
          go_wp2
          go_ret
          exact ⟨rfl, HB.out⟩

end Go.Proofs.Ytbiglmpibdlhmaa
